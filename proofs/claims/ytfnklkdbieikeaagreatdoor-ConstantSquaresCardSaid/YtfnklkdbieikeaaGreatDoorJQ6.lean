/- Joined: RdPB, ArPB, RdK (what the law leans on). -/
import Derived.Test.YtfnklkdbieikeaaGreatDoorBaseU
import Derived.Test.YtfnklkdbieikeaaGreatDoorBaseX
import Derived.Test.YtfnklkdbieikeaaGreatDoorBaseZ
import Derived.Test.YtfnklkdbieikeaaGreatDoorJQ5
import Derived.Deep.DrawnRows
import Derived.Deep.RegionHeld3
namespace Go.Proofs.YtfnklkdbieikeaaGreatDoor
open Go.RowKit
set_option linter.unusedVariables false
set_option linter.unusedSimpArgs false
set_option maxRecDepth 100000
attribute [local go_sem ↓] Go.wp_at_zero Go.wp_at_succ

set_option maxHeartbeats 16000000 in
theorem dsqrt_any (m e n f k : Int) (vx : Value) (w : World) (hx : IsI w vx m e n f) (lm : zl m ≤ 400) (ln : zl n ≤ 400) (he : -10000 ≤ e ∧ e ≤ 10000) (hf : -10000 ≤ f ∧ f ≤ 10000) (hv : Dv m e) (hv2 : Dv n f) (hk1 : -9223372036854775808 ≤ k) (hk2 : k ≤ 9223372036854775807) (hT : Tab w) :
    Calls Tryz.prog 22 #[vx, .int .i64 k] w (RetSr w m e n f k) := by
  obtain ⟨A, c, B, d, rfl, hn1, hn2⟩ := hx.form
  have L0 := ((Lq.mk0 w).n hn2).n hn1
  have HW0 := fun W => rdperm_any k W
  have g1 := fun v W h => dsign_any m e v W h (by omega)
  have g2 := fun v W h => dsign_any n f v W h (by omega)
  have hc := cmp_neg0 m
  have hc2 := cmp_neg0 n
  obtain ⟨x1, hx1⟩ : ∃ x, cmpI m 0 = x := ⟨_, rfl⟩
  obtain ⟨x2, hx2⟩ : ∃ x, cmpI n 0 = x := ⟨_, rfl⟩
  rw [hx1] at g1 hc
  rw [hx2] at g2 hc2
  have H1 := Lib.hid g1
  have H2 := Lib.hid g2
  have g3 := fun v W h (hW : Below w.heap.size w W) => dsqrtf_any m e k v W h lm he hv hk1 hk2 (hT.mono hW)
  have g4 := fun v W h (hW : Below w.heap.size w W) => dsqrtc_any n f k v W h ln hf hv2 hk1 hk2 (hT.mono hW)
  unfold RetSf at g3
  unfold RetSc at g4
  unfold RetSr
  clear g1 g2 hx1 hx2
  cases hw : workB k
  · rw [if_neg (by decide)]
    rw [hw] at HW0
    have HW := Lib.hid HW0
    clear HW0 hx hn1 hn2 hw lm ln he hf hv hv2 hT hc hc2 g3 g4
    go_enter Tryz.func22, Tryz.ntmps22
    go_wp2_with fail
    have L := ((L0.varI (w.heap.size) (by simp) (ng m) A (zl m) c e (ng n) B (zl n) d f).varI (w.heap.size + 1) (by simp) false none 0 0 0 false none 0 0 0)
    have c00 := L.b0.c60
    have f00 := L.b0.fr 0
    have c01 := L.b0.c61
    have f01 := L.b0.fr 1
    have c02 := L.b0.c62
    have f02 := L.b0.fr 2
    have c03 := L.b0.c63
    have f03 := L.b0.fr 3
    have c04 := L.b0.c64
    have f04 := L.b0.fr 4
    have c05 := L.b0.c65
    have f05 := L.b0.fr 5
    have c10 := L.tl.b0.c60
    have c11 := L.tl.b0.c61
    have c12 := L.tl.b0.c62
    have c13 := L.tl.b0.c63
    have c14 := L.tl.b0.c64
    have c15 := L.tl.b0.c65
    (try go_wp2_with fail)
    refine (HW.out _).mono ?_
    rintro e9 w' ⟨rfl, rfl⟩
    (try go_wp2_with fail)
    exact bodyPost_ret (v := .tuple #[.agg #[.bool false, .slice none 0 0, .int .i64 0, .bool false, .slice none 0 0, .int .i64 0], .int .i64 1]) (by simp [results, Tryz.results22, go_sem, c00, c01, c02, c03, c04, c05]) rfl (RetIE.z L.below _)
  · rw [if_pos rfl]
    rw [hw] at HW0
    have HW := Lib.hid HW0
    clear HW0
    by_cases hn : n < 0
    · rw [if_pos hn]
      have b2 : decide (x2 < 0) = true := decide_eq_true (hc2.2 hn)
      clear hx hn1 hn2 hw lm ln he hf hv hv2 hT hc hc2 g3 g4 hn
      go_enter Tryz.func22, Tryz.ntmps22
      go_wp2_with fail
      have L := ((L0.varI (w.heap.size) (by simp) (ng m) A (zl m) c e (ng n) B (zl n) d f).varI (w.heap.size + 1) (by simp) false none 0 0 0 false none 0 0 0)
      have c00 := L.b0.c60
      have f00 := L.b0.fr 0
      have c01 := L.b0.c61
      have f01 := L.b0.fr 1
      have c02 := L.b0.c62
      have f02 := L.b0.fr 2
      have c03 := L.b0.c63
      have f03 := L.b0.fr 3
      have c04 := L.b0.c64
      have f04 := L.b0.fr 4
      have c05 := L.b0.c65
      have f05 := L.b0.fr 5
      have c10 := L.tl.b0.c60
      have c11 := L.tl.b0.c61
      have c12 := L.tl.b0.c62
      have c13 := L.tl.b0.c63
      have c14 := L.tl.b0.c64
      have c15 := L.tl.b0.c65
      (try go_wp2_with fail)
      refine (HW.out _).mono ?_
      rintro e9 w' ⟨rfl, rfl⟩
      (try go_wp2_with fail)
      refine (H2.out _ _ (isD_n (m := n) (e := f) (s := .slice B (zl n) d) (L.getN (v := .slice B (zl n) d) (x := (n).natAbs) (by simp)))).mono ?_
      rintro e w1 ⟨rfl, be⟩
      clear c00 f00 c01 f01 c02 f02 c03 f03 c04 f04 c05 f05 c10 c11 c12 c13 c14 c15
      replace L := L.step be
      clear be
      have c00 := L.b0.c60
      have f00 := L.b0.fr 0
      have c01 := L.b0.c61
      have f01 := L.b0.fr 1
      have c02 := L.b0.c62
      have f02 := L.b0.fr 2
      have c03 := L.b0.c63
      have f03 := L.b0.fr 3
      have c04 := L.b0.c64
      have f04 := L.b0.fr 4
      have c05 := L.b0.c65
      have f05 := L.b0.fr 5
      have c10 := L.tl.b0.c60
      have c11 := L.tl.b0.c61
      have c12 := L.tl.b0.c62
      have c13 := L.tl.b0.c63
      have c14 := L.tl.b0.c64
      have c15 := L.tl.b0.c65
      (try go_wp2_with fail)
      have LP := L.putI (by omega) (by first | (simp; done) | (simp; omega)) false none 0 0 0 false none 0 0 0
      have k0 := LP.b0.c60
      have k1 := LP.b0.c61
      have k2 := LP.b0.c62
      have k3 := LP.b0.c63
      have k4 := LP.b0.c64
      have k5 := LP.b0.c65
      unfold put6 at k0 k1 k2 k3 k4 k5
      exact bodyPost_ret (v := .tuple #[.agg #[.bool false, .slice none 0 0, .int .i64 0, .bool false, .slice none 0 0, .int .i64 0], .int .i64 4]) (by simp [results, Tryz.results22, go_sem, k0, k1, k2, k3, k4, k5]) rfl (RetIE.z LP.below _)
    · rw [if_neg hn]
      have b2 : decide (x2 < 0) = false := decide_eq_false (fun h => hn (hc2.1 h))
      by_cases hm : m < 0
      · rw [if_pos hm]
        have b1 : decide (x1 < 0) = true := decide_eq_true (hc.2 hm)
        clear hx hn1 hn2 hw lm ln he hf hv hv2 hT hc hc2 g3 g4 hn hm
        go_enter Tryz.func22, Tryz.ntmps22
        go_wp2_with fail
        have L := ((L0.varI (w.heap.size) (by simp) (ng m) A (zl m) c e (ng n) B (zl n) d f).varI (w.heap.size + 1) (by simp) false none 0 0 0 false none 0 0 0)
        have c00 := L.b0.c60
        have f00 := L.b0.fr 0
        have c01 := L.b0.c61
        have f01 := L.b0.fr 1
        have c02 := L.b0.c62
        have f02 := L.b0.fr 2
        have c03 := L.b0.c63
        have f03 := L.b0.fr 3
        have c04 := L.b0.c64
        have f04 := L.b0.fr 4
        have c05 := L.b0.c65
        have f05 := L.b0.fr 5
        have c10 := L.tl.b0.c60
        have c11 := L.tl.b0.c61
        have c12 := L.tl.b0.c62
        have c13 := L.tl.b0.c63
        have c14 := L.tl.b0.c64
        have c15 := L.tl.b0.c65
        (try go_wp2_with fail)
        refine (HW.out _).mono ?_
        rintro e9 w' ⟨rfl, rfl⟩
        (try go_wp2_with fail)
        refine (H2.out _ _ (isD_n (m := n) (e := f) (s := .slice B (zl n) d) (L.getN (v := .slice B (zl n) d) (x := (n).natAbs) (by simp)))).mono ?_
        rintro e w1 ⟨rfl, be⟩
        clear c00 f00 c01 f01 c02 f02 c03 f03 c04 f04 c05 f05 c10 c11 c12 c13 c14 c15
        replace L := L.step be
        clear be
        have c00 := L.b0.c60
        have f00 := L.b0.fr 0
        have c01 := L.b0.c61
        have f01 := L.b0.fr 1
        have c02 := L.b0.c62
        have f02 := L.b0.fr 2
        have c03 := L.b0.c63
        have f03 := L.b0.fr 3
        have c04 := L.b0.c64
        have f04 := L.b0.fr 4
        have c05 := L.b0.c65
        have f05 := L.b0.fr 5
        have c10 := L.tl.b0.c60
        have c11 := L.tl.b0.c61
        have c12 := L.tl.b0.c62
        have c13 := L.tl.b0.c63
        have c14 := L.tl.b0.c64
        have c15 := L.tl.b0.c65
        (try go_wp2_with fail)
        refine (H1.out _ _ (isD_n (m := m) (e := e) (s := .slice A (zl m) c) (L.getN (v := .slice A (zl m) c) (x := (m).natAbs) (by simp)))).mono ?_
        rintro e w2 ⟨rfl, be⟩
        clear c00 f00 c01 f01 c02 f02 c03 f03 c04 f04 c05 f05 c10 c11 c12 c13 c14 c15
        replace L := L.step be
        clear be
        have c00 := L.b0.c60
        have f00 := L.b0.fr 0
        have c01 := L.b0.c61
        have f01 := L.b0.fr 1
        have c02 := L.b0.c62
        have f02 := L.b0.fr 2
        have c03 := L.b0.c63
        have f03 := L.b0.fr 3
        have c04 := L.b0.c64
        have f04 := L.b0.fr 4
        have c05 := L.b0.c65
        have f05 := L.b0.fr 5
        have c10 := L.tl.b0.c60
        have c11 := L.tl.b0.c61
        have c12 := L.tl.b0.c62
        have c13 := L.tl.b0.c63
        have c14 := L.tl.b0.c64
        have c15 := L.tl.b0.c65
        (try go_wp2_with fail)
        have LP := L.putI (by omega) (by first | (simp; done) | (simp; omega)) false none 0 0 0 false none 0 0 0
        have k0 := LP.b0.c60
        have k1 := LP.b0.c61
        have k2 := LP.b0.c62
        have k3 := LP.b0.c63
        have k4 := LP.b0.c64
        have k5 := LP.b0.c65
        unfold put6 at k0 k1 k2 k3 k4 k5
        exact bodyPost_ret (v := .tuple #[.agg #[.bool false, .slice none 0 0, .int .i64 0, .bool false, .slice none 0 0, .int .i64 0], .int .i64 5]) (by simp [results, Tryz.results22, go_sem, k0, k1, k2, k3, k4, k5]) rfl (RetIE.z LP.below _)
      · rw [if_neg hm]
        have b1 : decide (x1 < 0) = false := decide_eq_false (fun h => hm (hc.1 h))
        simp only [hw, if_true, if_neg hm] at g3
        simp only [hw, if_true, if_neg hn] at g4
        obtain ⟨s0, s1, s2, s3, s4, s5, s6⟩ := sq_size lm he (Int.not_lt.1 hm) hw
        obtain ⟨r0, r1, r2, r3, r4, r5, r6⟩ := sq_size ln hf (Int.not_lt.1 hn) hw
        obtain ⟨_, k0, k1⟩ := work_perm hw
        have y1 := mkE_in (sqR (dq m e) k) k k0
        have y2 := mkE_in (sqU (dq n f) k) k k0
        have y3 := zl_mk (sqR (dq m e) k) (-k)
        have y4 := zl_mk (sqU (dq n f) k) (-k)
        have g5 := fun v W h => asmall_any (mkM (sqR (dq m e) k) (-k)) (mkE (sqR (dq m e) k) (-k)) (mkM (sqU (dq n f) k) (-k)) (mkE (sqU (dq n f) k) (-k)) v W h (by omega) (by omega) (by omega) (by omega) (mk_ok s5) (mk_ok r6)
        unfold smS
        obtain ⟨b, hb⟩ : ∃ b, smallB (mkM (sqR (dq m e) k) (-k)) (mkE (sqR (dq m e) k) (-k)) (mkM (sqU (dq n f) k) (-k)) (mkE (sqU (dq n f) k) (-k)) = b := ⟨_, rfl⟩
        rw [hb] at g5 ⊢
        obtain ⟨M, hM⟩ : ∃ z, mkM (sqR (dq m e) k) (-k) = z := ⟨_, rfl⟩
        obtain ⟨E, hE⟩ : ∃ z, mkE (sqR (dq m e) k) (-k) = z := ⟨_, rfl⟩
        obtain ⟨N, hN⟩ : ∃ z, mkM (sqU (dq n f) k) (-k) = z := ⟨_, rfl⟩
        obtain ⟨G, hG⟩ : ∃ z, mkE (sqU (dq n f) k) (-k) = z := ⟨_, rfl⟩
        rw [hM, hE] at g3
        rw [hN, hG] at g4
        rw [hM, hE, hN, hG] at g5 ⊢
        have H3 := Lib.hid g3
        have H4 := Lib.hid g4
        have H5 := Lib.hid g5
        clear hx hn1 hn2 hw lm ln he hf hv hv2 hT hc hc2 g3 g4 g5 hn hm s0 s1 s2 s3 s4 s5 s6 r0 r1 r2 r3 r4 r5 r6 k0 k1 y1 y2 y3 y4 hb hM hE hN hG
        go_enter Tryz.func22, Tryz.ntmps22
        go_wp2_with fail
        have L := ((L0.varI (w.heap.size) (by simp) (ng m) A (zl m) c e (ng n) B (zl n) d f).varI (w.heap.size + 1) (by simp) false none 0 0 0 false none 0 0 0)
        have c00 := L.b0.c60
        have f00 := L.b0.fr 0
        have c01 := L.b0.c61
        have f01 := L.b0.fr 1
        have c02 := L.b0.c62
        have f02 := L.b0.fr 2
        have c03 := L.b0.c63
        have f03 := L.b0.fr 3
        have c04 := L.b0.c64
        have f04 := L.b0.fr 4
        have c05 := L.b0.c65
        have f05 := L.b0.fr 5
        have c10 := L.tl.b0.c60
        have c11 := L.tl.b0.c61
        have c12 := L.tl.b0.c62
        have c13 := L.tl.b0.c63
        have c14 := L.tl.b0.c64
        have c15 := L.tl.b0.c65
        (try go_wp2_with fail)
        refine (HW.out _).mono ?_
        rintro e9 w' ⟨rfl, rfl⟩
        (try go_wp2_with fail)
        refine (H2.out _ _ (isD_n (m := n) (e := f) (s := .slice B (zl n) d) (L.getN (v := .slice B (zl n) d) (x := (n).natAbs) (by simp)))).mono ?_
        rintro e w1 ⟨rfl, be⟩
        clear c00 f00 c01 f01 c02 f02 c03 f03 c04 f04 c05 f05 c10 c11 c12 c13 c14 c15
        replace L := L.step be
        clear be
        have c00 := L.b0.c60
        have f00 := L.b0.fr 0
        have c01 := L.b0.c61
        have f01 := L.b0.fr 1
        have c02 := L.b0.c62
        have f02 := L.b0.fr 2
        have c03 := L.b0.c63
        have f03 := L.b0.fr 3
        have c04 := L.b0.c64
        have f04 := L.b0.fr 4
        have c05 := L.b0.c65
        have f05 := L.b0.fr 5
        have c10 := L.tl.b0.c60
        have c11 := L.tl.b0.c61
        have c12 := L.tl.b0.c62
        have c13 := L.tl.b0.c63
        have c14 := L.tl.b0.c64
        have c15 := L.tl.b0.c65
        (try go_wp2_with fail)
        refine (H1.out _ _ (isD_n (m := m) (e := e) (s := .slice A (zl m) c) (L.getN (v := .slice A (zl m) c) (x := (m).natAbs) (by simp)))).mono ?_
        rintro e w2 ⟨rfl, be⟩
        clear c00 f00 c01 f01 c02 f02 c03 f03 c04 f04 c05 f05 c10 c11 c12 c13 c14 c15
        replace L := L.step be
        clear be
        have c00 := L.b0.c60
        have f00 := L.b0.fr 0
        have c01 := L.b0.c61
        have f01 := L.b0.fr 1
        have c02 := L.b0.c62
        have f02 := L.b0.fr 2
        have c03 := L.b0.c63
        have f03 := L.b0.fr 3
        have c04 := L.b0.c64
        have f04 := L.b0.fr 4
        have c05 := L.b0.c65
        have f05 := L.b0.fr 5
        have c10 := L.tl.b0.c60
        have c11 := L.tl.b0.c61
        have c12 := L.tl.b0.c62
        have c13 := L.tl.b0.c63
        have c14 := L.tl.b0.c64
        have c15 := L.tl.b0.c65
        (try go_wp2_with fail)
        clear c00 f00 c01 f01 c02 f02 c03 f03 c04 f04 c05 f05 c10 c11 c12 c13 c14 c15
        have cel10 := L.tl.b0.c60
        have cel11 := L.tl.b0.c61
        have cel12 := L.tl.b0.c62
        have cel13 := L.tl.b0.c63
        have cel14 := L.tl.b0.c64
        have cel15 := L.tl.b0.c65
        (try go_wp2_with fail)
        clear cel10 cel11 cel12 cel13 cel14 cel15
        refine (H3.out _ _ (isD_n (m := m) (e := e) (s := .slice A (zl m) c) (L.getN (v := .slice A (zl m) c) (x := (m).natAbs) (by simp))) L.below).mono ?_
        rintro e w3 ⟨vv, rfl, id, be⟩
        obtain ⟨A8, c8, rfl, _, in9⟩ := id.form
        replace L := (L.step be).n in9
        clear be id in9
        have hlg8 := L.b0.lt
        replace L := L.varD w3.heap.size rfl (ng M) A8 (zl M) c8 E
        have cel00 := L.b0.c30
        have cel01 := L.b0.c31
        have cel02 := L.b0.c32
        have cel20 := L.tl.tl.b0.c60
        have cel21 := L.tl.tl.b0.c61
        have cel22 := L.tl.tl.b0.c62
        have cel23 := L.tl.tl.b0.c63
        have cel24 := L.tl.tl.b0.c64
        have cel25 := L.tl.tl.b0.c65
        go_wp2_with fail
        obtain ⟨g8, hg⟩ : ∃ g, w3.heap.size = g := ⟨_, rfl⟩
        rw [hg] at L hlg8 cel00 cel01 cel02 ⊢
        clear hg
        clear cel00 cel01 cel02 cel20 cel21 cel22 cel23 cel24 cel25
        refine (H4.out _ _ (isD_n (m := n) (e := f) (s := .slice B (zl n) d) (L.getN (v := .slice B (zl n) d) (x := (n).natAbs) (by simp))) L.below).mono ?_
        rintro e w4 ⟨vv, rfl, id, be⟩
        obtain ⟨A9, c9, rfl, _, in9⟩ := id.form
        replace L := (L.step be).n in9
        clear be id in9
        have hlg9 := L.b0.lt
        replace L := L.varD w4.heap.size rfl (ng N) A9 (zl N) c9 G
        have cel00 := L.b0.c30
        have cel01 := L.b0.c31
        have cel02 := L.b0.c32
        have cel10 := L.tl.b0.c30
        have cel11 := L.tl.b0.c31
        have cel12 := L.tl.b0.c32
        replace L := L.varI (w4.heap.size + 1) (by simp) (ng M) A8 (zl M) c8 E (ng N) A9 (zl N) c9 G
        have cem00 := L.b0.c60
        have cem01 := L.b0.c61
        have cem02 := L.b0.c62
        have cem03 := L.b0.c63
        have cem04 := L.b0.c64
        have cem05 := L.b0.c65
        go_wp2_with fail
        refine (H5.out _ _ (isI_n (m := M) (e := E) (n := N) (f := G) (s := .slice A8 (zl M) c8) (t := .slice A9 (zl N) c9) (L.getN (by simp)) (L.getN (by simp)))).mono ?_
        rintro e w5 ⟨rfl, be⟩
        clear cem00 cem01 cem02 cem03 cem04 cem05 cel00 cel01 cel02 cel10 cel11 cel12
        replace L := L.step be
        clear be
        cases b
        · skip
          have cel00 := L.b0.c60
          have cel01 := L.b0.c61
          have cel02 := L.b0.c62
          have cel03 := L.b0.c63
          have cel04 := L.b0.c64
          have cel05 := L.b0.c65
          have R := L.pick [(w.heap.size + 1, 31, #[.bool false, .slice none 0 0, .int .i64 0, .bool false, .slice none 0 0, .int .i64 0])] (by simp)
          have r0 := R.b0.c60
          have s0 := R.b0.fr 0
          have r1 := R.b0.c61
          have s1 := R.b0.fr 1
          have r2 := R.b0.c62
          have s2 := R.b0.fr 2
          have r3 := R.b0.c63
          have s3 := R.b0.fr 3
          have r4 := R.b0.c64
          have s4 := R.b0.fr 4
          have r5 := R.b0.c65
          have s5 := R.b0.fr 5
          go_wp2_with fail
          replace L := R
          have LP := L.putI (by omega) (by first | (simp; done) | (simp; omega)) false none 0 0 0 false none 0 0 0
          have k0 := LP.b0.c60
          have k1 := LP.b0.c61
          have k2 := LP.b0.c62
          have k3 := LP.b0.c63
          have k4 := LP.b0.c64
          have k5 := LP.b0.c65
          unfold put6 at k0 k1 k2 k3 k4 k5
          exact bodyPost_ret (v := .tuple #[.agg #[.bool false, .slice none 0 0, .int .i64 0, .bool false, .slice none 0 0, .int .i64 0], .int .i64 3]) (by simp [results, Tryz.results22, go_sem, k0, k1, k2, k3, k4, k5]) rfl (RetIE.z LP.below _)
        · skip
          have cel00 := L.b0.c60
          have cel01 := L.b0.c61
          have cel02 := L.b0.c62
          have cel03 := L.b0.c63
          have cel04 := L.b0.c64
          have cel05 := L.b0.c65
          have R := L.pick [(w.heap.size + 1, 31, #[.bool false, .slice none 0 0, .int .i64 0, .bool false, .slice none 0 0, .int .i64 0])] (by simp)
          have r0 := R.b0.c60
          have s0 := R.b0.fr 0
          have r1 := R.b0.c61
          have s1 := R.b0.fr 1
          have r2 := R.b0.c62
          have s2 := R.b0.fr 2
          have r3 := R.b0.c63
          have s3 := R.b0.fr 3
          have r4 := R.b0.c64
          have s4 := R.b0.fr 4
          have r5 := R.b0.c65
          have s5 := R.b0.fr 5
          go_wp2_with fail
          replace L := R
          have LP := L.putI (by omega) (by first | (simp; done) | (simp; omega)) (ng M) A8 (zl M) c8 E (ng N) A9 (zl N) c9 G
          have k0 := LP.b0.c60
          have k1 := LP.b0.c61
          have k2 := LP.b0.c62
          have k3 := LP.b0.c63
          have k4 := LP.b0.c64
          have k5 := LP.b0.c65
          unfold put6 at k0 k1 k2 k3 k4 k5
          exact bodyPost_ret (v := .tuple #[.agg #[.bool (ng M), .slice A8 (zl M) c8, .int .i64 E, .bool (ng N), .slice A9 (zl N) c9, .int .i64 G], .int .i64 0]) (by simp [results, Tryz.results22, go_sem, k0, k1, k2, k3, k4, k5]) rfl ⟨_, rfl, isI_n (LP.getN (by simp)) (LP.getN (by simp)), LP.below⟩

set_option maxHeartbeats 16000000 in
theorem aenclD_any (m e n f k : Int) (vx vy : Value) (w : World) (hx : IsD w vx m e) (hy : IsD w vy n f) (lm : zl m ≤ 500) (ln : zl n ≤ 500) (he : -10000 ≤ e ∧ e ≤ 10000) (hf : -10000 ≤ f ∧ f ≤ 10000) (hw : workB k = true) (hT : Tab w) :
    Calls Tryz.prog 100 #[vx, vy, .int .i64 k, .func (.func 101) #[] #[], .func (.func 102) #[] #[]] w (RetEn w (dq m e) (dq n f) k) := by
  obtain ⟨wp, wk1, wk2⟩ := work_perm hw
  obtain ⟨A, c, rfl, _, hn1⟩ := hx.form
  obtain ⟨B, d, rfl, _, hn2⟩ := hy.form
  have L0 := ((Lq.mk0 w).n hn2).n hn1
  have y4 := zl_neg n
  have y1 := zl_cutD m e k
  have y2 := zl_cutD (-n) f k
  rw [dq_neg] at y2
  have f1 := fun v W h (hW : Below w.heap.size w W) => gfloor_any m e k v W h (by omega) (by omega) (by omega) (by omega) (hT.mono hW)
  have f2 := fun v W h (hW : Below w.heap.size w W) => gceil_any n f k v W h (by omega) (by omega) (by omega) (by omega) (hT.mono hW)
  obtain ⟨lo, hlo⟩ : ∃ lo, dq m e = lo := ⟨_, rfl⟩
  obtain ⟨hi, hhi⟩ : ∃ hi, dq n f = hi := ⟨_, rfl⟩
  rw [hlo] at f1 y1 ⊢
  rw [hhi] at f2 y2 ⊢
  have y3 := zl_neg (cutQ (-hi) k)
  have y5 := zl_mk (cutQ lo k) (-k)
  have y6 := zl_mk (-(cutQ (-hi) k)) (-k)
  rw [(g_yes wp (cutQ lo k)).1, (g_yes wp (cutQ lo k)).2.1, (g_yes wp (cutQ lo k)).2.2] at f1
  rw [(g_yes wp (-(cutQ (-hi) k))).1, (g_yes wp (-(cutQ (-hi) k))).2.1, (g_yes wp (-(cutQ (-hi) k))).2.2] at f2
  have hsm := Lib.hid (fun (q1 : mkR (cutQ lo k) (-k) = 0) (q2 : mkR (-(cutQ (-hi) k)) (-k) = 0) v W h => (show Calls Tryz.prog 57 #[v] W (RetB W (enB lo hi k)) from asmall_any (enM lo k) (enE lo k) (upM hi k) (upE hi k) v W h (by unfold enM; omega) (by unfold upM; omega) (by have := dv_bound (mk_ok q1); unfold enE; omega) (by have := dv_bound (mk_ok q2); unfold upE; omega) (mk_ok q1) (mk_ok q2)))
  have HRT := Lib.hid (show RetEn w lo hi k = if mkR (cutQ lo k) (-k) = 0 ∧ mkR (-(cutQ (-hi) k)) (-k) = 0 ∧ enB lo hi k = true then RetIE w (enM lo k) (enE lo k) (upM hi k) (upE hi k) 0 else RetIE w 0 0 0 0 3 from by unfold RetEn; rw [if_pos hw])
  unfold enM enE upM upE at hsm HRT
  have H1 := Lib.hid f1
  have H2 := Lib.hid f2
  clear f1 f2 hlo hhi y1 y2 y3 y4 y5 y6 wp hx hy hn1 hn2 lm ln he hf hw hT wk1 wk2
  generalize mkR (cutQ lo k) (-k) = R1 at *
  generalize mkR (-(cutQ (-hi) k)) (-k) = R2 at *
  generalize mkM (cutQ lo k) (-k) = M at *
  generalize mkE (cutQ lo k) (-k) = E at *
  generalize mkM (-(cutQ (-hi) k)) (-k) = N at *
  generalize mkE (-(cutQ (-hi) k)) (-k) = G at *
  generalize enB lo hi k = b at *
  cases hr1 : decide (R1 = 0)
  · replace hr1 := of_decide_eq_false hr1
    have e1 : (R1 != 0) = true := by simpa using hr1
    have e2 : (R1 == 0) = false := by simpa using hr1
    clear hsm
    go_enter Tryz.func100, Tryz.ntmps100
    go_wp2_with fail
    have L := (((L0.varD (w.heap.size) (by simp) (ng m) A (zl m) c e).varD (w.heap.size + 1) (by simp) (ng n) B (zl n) d f).varI (w.heap.size + 2) (by simp) false none 0 0 0 false none 0 0 0)
    obtain ⟨gr, hgr⟩ : ∃ gr, w.heap.size + 1 + 1 = gr := ⟨_, rfl⟩
    have hgr2 : w.heap.size + 2 = gr := hgr
    rw [hgr2] at L
    rw [hgr]
    have hgw : w.heap.size + 1 < gr := by omega
    clear hgr hgr2
    have cel20 := L.tl.tl.b0.c30
    have cel21 := L.tl.tl.b0.c31
    have cel22 := L.tl.tl.b0.c32
    go_wp2_with fail
    refine (H1.out _ _ (isD_n (m := m) (e := e) (s := .slice A (zl m) c) (L.getN (v := .slice A (zl m) c) (x := (m).natAbs) (by simp))) L.below).mono ?_
    rintro e w1 ⟨vv, rfl, id, be⟩
    clear cel20 cel21 cel22
    obtain ⟨A8, c8, rfl, _, in9⟩ := id.form
    replace L := (L.step be).n in9
    clear be id in9
    have hlg8 := L.b0.lt
    replace L := L.varD w1.heap.size rfl (ng M) A8 (zl M) c8 E
    have cel20 := L.tl.tl.b0.c30
    have cel21 := L.tl.tl.b0.c31
    have cel22 := L.tl.tl.b0.c32
    go_wp2_with fail
    obtain ⟨g8, hg⟩ : ∃ g, w1.heap.size = g := ⟨_, rfl⟩
    rw [hg] at L hlg8 ⊢
    clear hg
    refine (H2.out _ _ (isD_n (m := n) (e := f) (s := .slice B (zl n) d) (L.getN (v := .slice B (zl n) d) (x := (n).natAbs) (by simp))) L.below).mono ?_
    rintro e w2 ⟨vv, rfl, id, be⟩
    clear cel20 cel21 cel22
    obtain ⟨A9, c9, rfl, _, in9⟩ := id.form
    replace L := (L.step be).n in9
    clear be id in9
    have hl9 := L.b0.lt
    replace L := L.varD w2.heap.size rfl (ng N) A9 (zl N) c9 G
    have cel00 := L.b0.c30
    have cel01 := L.b0.c31
    have cel02 := L.b0.c32
    have cel10 := L.tl.b0.c30
    have cel11 := L.tl.b0.c31
    have cel12 := L.tl.b0.c32
    replace L := L.varI (w2.heap.size + 1) (by simp) (ng M) A8 (zl M) c8 E (ng N) A9 (zl N) c9 G
    have cem00 := L.b0.c60
    have cem01 := L.b0.c61
    have cem02 := L.b0.c62
    have cem03 := L.b0.c63
    have cem04 := L.b0.c64
    have cem05 := L.b0.c65
    have R := L.pick [(gr, 31, #[.bool false, .slice none 0 0, .int .i64 0, .bool false, .slice none 0 0, .int .i64 0])] (by simp)
    have r0 := R.b0.c60
    have s0 := R.b0.fr 0
    have r1 := R.b0.c61
    have s1 := R.b0.fr 1
    have r2 := R.b0.c62
    have s2 := R.b0.fr 2
    have r3 := R.b0.c63
    have s3 := R.b0.fr 3
    have r4 := R.b0.c64
    have s4 := R.b0.fr 4
    have r5 := R.b0.c65
    have s5 := R.b0.fr 5
    go_wp2_with fail
    have LP := R.putI (by omega) (by simp) false none 0 0 0 false none 0 0 0
    have k0' := LP.b0.c60
    have k1' := LP.b0.c61
    have k2' := LP.b0.c62
    have k3' := LP.b0.c63
    have k4' := LP.b0.c64
    have k5' := LP.b0.c65
    unfold put6 at k0' k1' k2' k3' k4' k5'
    exact bodyPost_ret (v := .tuple #[.agg #[.bool false, .slice none 0 0, .int .i64 0, .bool false, .slice none 0 0, .int .i64 0], .int .i64 3]) (by simp [results, Tryz.results100, go_sem, k0', k1', k2', k3', k4', k5']) rfl (by rw [HRT.out, if_neg (fun h => hr1 h.1)]; exact ⟨_, rfl, isI_zero _, LP.below⟩)
  · obtain rfl := of_decide_eq_true hr1
    have HR1 := Lib.hid (rfl : (0 : Int) = 0)
    clear hr1
    cases hr2 : decide (R2 = 0)
    · replace hr2 := of_decide_eq_false hr2
      have e1 : (R2 != 0) = true := by simpa using hr2
      have e2 : (R2 == 0) = false := by simpa using hr2
      clear hsm
      go_enter Tryz.func100, Tryz.ntmps100
      go_wp2_with fail
      have L := (((L0.varD (w.heap.size) (by simp) (ng m) A (zl m) c e).varD (w.heap.size + 1) (by simp) (ng n) B (zl n) d f).varI (w.heap.size + 2) (by simp) false none 0 0 0 false none 0 0 0)
      obtain ⟨gr, hgr⟩ : ∃ gr, w.heap.size + 1 + 1 = gr := ⟨_, rfl⟩
      have hgr2 : w.heap.size + 2 = gr := hgr
      rw [hgr2] at L
      rw [hgr]
      have hgw : w.heap.size + 1 < gr := by omega
      clear hgr hgr2
      have cel20 := L.tl.tl.b0.c30
      have cel21 := L.tl.tl.b0.c31
      have cel22 := L.tl.tl.b0.c32
      go_wp2_with fail
      refine (H1.out _ _ (isD_n (m := m) (e := e) (s := .slice A (zl m) c) (L.getN (v := .slice A (zl m) c) (x := (m).natAbs) (by simp))) L.below).mono ?_
      rintro e w1 ⟨vv, rfl, id, be⟩
      clear cel20 cel21 cel22
      obtain ⟨A8, c8, rfl, _, in9⟩ := id.form
      replace L := (L.step be).n in9
      clear be id in9
      have hlg8 := L.b0.lt
      replace L := L.varD w1.heap.size rfl (ng M) A8 (zl M) c8 E
      have cel20 := L.tl.tl.b0.c30
      have cel21 := L.tl.tl.b0.c31
      have cel22 := L.tl.tl.b0.c32
      go_wp2_with fail
      obtain ⟨g8, hg⟩ : ∃ g, w1.heap.size = g := ⟨_, rfl⟩
      rw [hg] at L hlg8 ⊢
      clear hg
      refine (H2.out _ _ (isD_n (m := n) (e := f) (s := .slice B (zl n) d) (L.getN (v := .slice B (zl n) d) (x := (n).natAbs) (by simp))) L.below).mono ?_
      rintro e w2 ⟨vv, rfl, id, be⟩
      clear cel20 cel21 cel22
      obtain ⟨A9, c9, rfl, _, in9⟩ := id.form
      replace L := (L.step be).n in9
      clear be id in9
      have hl9 := L.b0.lt
      replace L := L.varD w2.heap.size rfl (ng N) A9 (zl N) c9 G
      have cel00 := L.b0.c30
      have cel01 := L.b0.c31
      have cel02 := L.b0.c32
      have cel10 := L.tl.b0.c30
      have cel11 := L.tl.b0.c31
      have cel12 := L.tl.b0.c32
      replace L := L.varI (w2.heap.size + 1) (by simp) (ng M) A8 (zl M) c8 E (ng N) A9 (zl N) c9 G
      have cem00 := L.b0.c60
      have cem01 := L.b0.c61
      have cem02 := L.b0.c62
      have cem03 := L.b0.c63
      have cem04 := L.b0.c64
      have cem05 := L.b0.c65
      have R := L.pick [(gr, 31, #[.bool false, .slice none 0 0, .int .i64 0, .bool false, .slice none 0 0, .int .i64 0])] (by simp)
      have r0 := R.b0.c60
      have s0 := R.b0.fr 0
      have r1 := R.b0.c61
      have s1 := R.b0.fr 1
      have r2 := R.b0.c62
      have s2 := R.b0.fr 2
      have r3 := R.b0.c63
      have s3 := R.b0.fr 3
      have r4 := R.b0.c64
      have s4 := R.b0.fr 4
      have r5 := R.b0.c65
      have s5 := R.b0.fr 5
      go_wp2_with fail
      have LP := R.putI (by omega) (by simp) false none 0 0 0 false none 0 0 0
      have k0' := LP.b0.c60
      have k1' := LP.b0.c61
      have k2' := LP.b0.c62
      have k3' := LP.b0.c63
      have k4' := LP.b0.c64
      have k5' := LP.b0.c65
      unfold put6 at k0' k1' k2' k3' k4' k5'
      exact bodyPost_ret (v := .tuple #[.agg #[.bool false, .slice none 0 0, .int .i64 0, .bool false, .slice none 0 0, .int .i64 0], .int .i64 3]) (by simp [results, Tryz.results100, go_sem, k0', k1', k2', k3', k4', k5']) rfl (by rw [HRT.out, if_neg (fun h => hr2 h.2.1)]; exact ⟨_, rfl, isI_zero _, LP.below⟩)
    · obtain rfl := of_decide_eq_true hr2
      have HR2 := Lib.hid (rfl : (0 : Int) = 0)
      have HS := Lib.hid (hsm.out rfl rfl)
      clear hr2 hsm
      go_enter Tryz.func100, Tryz.ntmps100
      go_wp2_with fail
      have L := (((L0.varD (w.heap.size) (by simp) (ng m) A (zl m) c e).varD (w.heap.size + 1) (by simp) (ng n) B (zl n) d f).varI (w.heap.size + 2) (by simp) false none 0 0 0 false none 0 0 0)
      obtain ⟨gr, hgr⟩ : ∃ gr, w.heap.size + 1 + 1 = gr := ⟨_, rfl⟩
      have hgr2 : w.heap.size + 2 = gr := hgr
      rw [hgr2] at L
      rw [hgr]
      have hgw : w.heap.size + 1 < gr := by omega
      clear hgr hgr2
      have cel20 := L.tl.tl.b0.c30
      have cel21 := L.tl.tl.b0.c31
      have cel22 := L.tl.tl.b0.c32
      go_wp2_with fail
      refine (H1.out _ _ (isD_n (m := m) (e := e) (s := .slice A (zl m) c) (L.getN (v := .slice A (zl m) c) (x := (m).natAbs) (by simp))) L.below).mono ?_
      rintro e w1 ⟨vv, rfl, id, be⟩
      clear cel20 cel21 cel22
      obtain ⟨A8, c8, rfl, _, in9⟩ := id.form
      replace L := (L.step be).n in9
      clear be id in9
      have hlg8 := L.b0.lt
      replace L := L.varD w1.heap.size rfl (ng M) A8 (zl M) c8 E
      have cel20 := L.tl.tl.b0.c30
      have cel21 := L.tl.tl.b0.c31
      have cel22 := L.tl.tl.b0.c32
      go_wp2_with fail
      obtain ⟨g8, hg⟩ : ∃ g, w1.heap.size = g := ⟨_, rfl⟩
      rw [hg] at L hlg8 ⊢
      clear hg
      refine (H2.out _ _ (isD_n (m := n) (e := f) (s := .slice B (zl n) d) (L.getN (v := .slice B (zl n) d) (x := (n).natAbs) (by simp))) L.below).mono ?_
      rintro e w2 ⟨vv, rfl, id, be⟩
      clear cel20 cel21 cel22
      obtain ⟨A9, c9, rfl, _, in9⟩ := id.form
      replace L := (L.step be).n in9
      clear be id in9
      have hl9 := L.b0.lt
      replace L := L.varD w2.heap.size rfl (ng N) A9 (zl N) c9 G
      have cel00 := L.b0.c30
      have cel01 := L.b0.c31
      have cel02 := L.b0.c32
      have cel10 := L.tl.b0.c30
      have cel11 := L.tl.b0.c31
      have cel12 := L.tl.b0.c32
      replace L := L.varI (w2.heap.size + 1) (by simp) (ng M) A8 (zl M) c8 E (ng N) A9 (zl N) c9 G
      have cem00 := L.b0.c60
      have cem01 := L.b0.c61
      have cem02 := L.b0.c62
      have cem03 := L.b0.c63
      have cem04 := L.b0.c64
      have cem05 := L.b0.c65
      go_wp2_with fail
      refine (HS.out _ _ (isI_n (s := .slice A8 (zl M) c8) (t := .slice A9 (zl N) c9) (L.getN (by simp)) (L.getN (by simp)))).mono ?_
      rintro e w3 ⟨rfl, be⟩
      clear cem00 cem01 cem02 cem03 cem04 cem05 cel00 cel01 cel02 cel10 cel11 cel12
      replace L := L.step be
      clear be
      cases b
      · skip
        have cel00 := L.b0.c60
        have cel01 := L.b0.c61
        have cel02 := L.b0.c62
        have cel03 := L.b0.c63
        have cel04 := L.b0.c64
        have cel05 := L.b0.c65
        have R := L.pick [(gr, 31, #[.bool false, .slice none 0 0, .int .i64 0, .bool false, .slice none 0 0, .int .i64 0])] (by simp)
        have r0 := R.b0.c60
        have s0 := R.b0.fr 0
        have r1 := R.b0.c61
        have s1 := R.b0.fr 1
        have r2 := R.b0.c62
        have s2 := R.b0.fr 2
        have r3 := R.b0.c63
        have s3 := R.b0.fr 3
        have r4 := R.b0.c64
        have s4 := R.b0.fr 4
        have r5 := R.b0.c65
        have s5 := R.b0.fr 5
        go_wp2_with fail
        have LP := R.putI (by omega) (by simp) false none 0 0 0 false none 0 0 0
        have k0' := LP.b0.c60
        have k1' := LP.b0.c61
        have k2' := LP.b0.c62
        have k3' := LP.b0.c63
        have k4' := LP.b0.c64
        have k5' := LP.b0.c65
        unfold put6 at k0' k1' k2' k3' k4' k5'
        exact bodyPost_ret (v := .tuple #[.agg #[.bool false, .slice none 0 0, .int .i64 0, .bool false, .slice none 0 0, .int .i64 0], .int .i64 3]) (by simp [results, Tryz.results100, go_sem, k0', k1', k2', k3', k4', k5']) rfl (by rw [HRT.out, if_neg (fun h => (by cases h.2.2))]; exact ⟨_, rfl, isI_zero _, LP.below⟩)
      · skip
        have cel00 := L.b0.c60
        have cel01 := L.b0.c61
        have cel02 := L.b0.c62
        have cel03 := L.b0.c63
        have cel04 := L.b0.c64
        have cel05 := L.b0.c65
        have R := L.pick [(gr, 31, #[.bool false, .slice none 0 0, .int .i64 0, .bool false, .slice none 0 0, .int .i64 0])] (by simp)
        have r0 := R.b0.c60
        have s0 := R.b0.fr 0
        have r1 := R.b0.c61
        have s1 := R.b0.fr 1
        have r2 := R.b0.c62
        have s2 := R.b0.fr 2
        have r3 := R.b0.c63
        have s3 := R.b0.fr 3
        have r4 := R.b0.c64
        have s4 := R.b0.fr 4
        have r5 := R.b0.c65
        have s5 := R.b0.fr 5
        go_wp2_with fail
        have LP := R.putI (by omega) (by simp) (ng M) A8 (zl M) c8 E (ng N) A9 (zl N) c9 G
        have k0' := LP.b0.c60
        have k1' := LP.b0.c61
        have k2' := LP.b0.c62
        have k3' := LP.b0.c63
        have k4' := LP.b0.c64
        have k5' := LP.b0.c65
        unfold put6 at k0' k1' k2' k3' k4' k5'
        exact bodyPost_ret (v := .tuple #[.agg #[.bool (ng M), .slice A8 (zl M) c8, .int .i64 E, .bool (ng N), .slice A9 (zl N) c9, .int .i64 G], .int .i64 0]) (by simp [results, Tryz.results100, go_sem, k0', k1', k2', k3', k4', k5']) rfl (by rw [HRT.out, if_pos ⟨HR1.out, HR2.out, by first | trivial | rfl⟩]; exact ⟨_, rfl, isI_n (LP.getN (by simp)) (LP.getN (by simp)), LP.below⟩)
set_option maxHeartbeats 16000000 in
theorem aenclR_any (a : Int) (d : Nat) (a2 : Int) (q : Nat) (k : Int) (vx vy : Value) (w : World) (hx : IsP w vx a d) (hy : IsP w vy a2 q) (la : zl a ≤ 800) (ld : len d ≤ 800) (hd : 0 < d) (lb : zl a2 ≤ 800) (lq : len q ≤ 800) (hq : 0 < q) (hw : workB k = true) (hT : Tab w) :
    Calls Tryz.prog 156 #[vx, vy, .int .i64 k, .func (.func 157) #[] #[], .func (.func 158) #[] #[]] w (RetEn w (Rat.divInt a (d : Int)) (Rat.divInt a2 (q : Int)) k) := by
  obtain ⟨wp, wk1, wk2⟩ := work_perm hw
  obtain ⟨A, c, B, i, rfl, _, _, _⟩ := hx.form
  obtain ⟨A', c', B', i', rfl, _, _, _⟩ := hy.form
  have L0 := ((Lq.mk0 w).q hy).q hx
  have y4 := zl_neg a2
  have y1 := zl_cut a d hd k
  have y2 := zl_cut (-a2) q hq k
  rw [← Rat.neg_divInt] at y2
  have f1 := fun v W h (hW : Below w.heap.size w W) => gfloorR_any a d k v W h (by omega) (by omega) hd (by omega) (by omega) (hT.mono hW)
  have f2 := fun v W h (hW : Below w.heap.size w W) => gceilR_any a2 q k v W h (by omega) (by omega) hq (by omega) (by omega) (hT.mono hW)
  obtain ⟨lo, hlo⟩ : ∃ lo, Rat.divInt a (d : Int) = lo := ⟨_, rfl⟩
  obtain ⟨hi, hhi⟩ : ∃ hi, Rat.divInt a2 (q : Int) = hi := ⟨_, rfl⟩
  rw [hlo] at f1 y1 ⊢
  rw [hhi] at f2 y2 ⊢
  have y3 := zl_neg (cutQ (-hi) k)
  have y5 := zl_mk (cutQ lo k) (-k)
  have y6 := zl_mk (-(cutQ (-hi) k)) (-k)
  rw [(g_yes wp (cutQ lo k)).1, (g_yes wp (cutQ lo k)).2.1, (g_yes wp (cutQ lo k)).2.2] at f1
  rw [(g_yes wp (-(cutQ (-hi) k))).1, (g_yes wp (-(cutQ (-hi) k))).2.1, (g_yes wp (-(cutQ (-hi) k))).2.2] at f2
  have hsm := Lib.hid (fun (q1 : mkR (cutQ lo k) (-k) = 0) (q2 : mkR (-(cutQ (-hi) k)) (-k) = 0) v W h => (show Calls Tryz.prog 57 #[v] W (RetB W (enB lo hi k)) from asmall_any (enM lo k) (enE lo k) (upM hi k) (upE hi k) v W h (by unfold enM; omega) (by unfold upM; omega) (by have := dv_bound (mk_ok q1); unfold enE; omega) (by have := dv_bound (mk_ok q2); unfold upE; omega) (mk_ok q1) (mk_ok q2)))
  have HRT := Lib.hid (show RetEn w lo hi k = if mkR (cutQ lo k) (-k) = 0 ∧ mkR (-(cutQ (-hi) k)) (-k) = 0 ∧ enB lo hi k = true then RetIE w (enM lo k) (enE lo k) (upM hi k) (upE hi k) 0 else RetIE w 0 0 0 0 3 from by unfold RetEn; rw [if_pos hw])
  unfold enM enE upM upE at hsm HRT
  have H1 := Lib.hid f1
  have H2 := Lib.hid f2
  clear f1 f2 hlo hhi y1 y2 y3 y4 y5 y6 wp hx hy la ld hd lb lq hq hw hT wk1 wk2
  generalize mkR (cutQ lo k) (-k) = R1 at *
  generalize mkR (-(cutQ (-hi) k)) (-k) = R2 at *
  generalize mkM (cutQ lo k) (-k) = M at *
  generalize mkE (cutQ lo k) (-k) = E at *
  generalize mkM (-(cutQ (-hi) k)) (-k) = N at *
  generalize mkE (-(cutQ (-hi) k)) (-k) = G at *
  generalize enB lo hi k = b at *
  cases hr1 : decide (R1 = 0)
  · replace hr1 := of_decide_eq_false hr1
    have e1 : (R1 != 0) = true := by simpa using hr1
    have e2 : (R1 == 0) = false := by simpa using hr1
    clear hsm
    go_enter Tryz.func156, Tryz.ntmps156
    go_wp2_with fail
    have L := (((L0.varQ (w.heap.size) (by simp) (ng a) A B (zl a) c (len d) i).varQ (w.heap.size + 1) (by simp) (ng a2) A' B' (zl a2) c' (len q) i').varI (w.heap.size + 2) (by simp) false none 0 0 0 false none 0 0 0)
    obtain ⟨gr, hgr⟩ : ∃ gr, w.heap.size + 1 + 1 = gr := ⟨_, rfl⟩
    have hgr2 : w.heap.size + 2 = gr := hgr
    rw [hgr2] at L
    rw [hgr]
    have hgw : w.heap.size + 1 < gr := by omega
    clear hgr hgr2
    have cel20 := L.tl.tl.b0.c30
    have cel21 := L.tl.tl.b0.c31
    have cel22 := L.tl.tl.b0.c32
    go_wp2_with fail
    refine (H1.out _ _ (L.getQ (v := .agg #[.bool (ng a), .slice A (zl a) c, .slice B (len d) i]) (a := a) (d := d) (by simp)) L.below).mono ?_
    rintro e w1 ⟨vv, rfl, id, be⟩
    clear cel20 cel21 cel22
    obtain ⟨A8, c8, rfl, _, in9⟩ := id.form
    replace L := (L.step be).n in9
    clear be id in9
    have hlg8 := L.b0.lt
    replace L := L.varD w1.heap.size rfl (ng M) A8 (zl M) c8 E
    have cel20 := L.tl.tl.b0.c30
    have cel21 := L.tl.tl.b0.c31
    have cel22 := L.tl.tl.b0.c32
    go_wp2_with fail
    obtain ⟨g8, hg⟩ : ∃ g, w1.heap.size = g := ⟨_, rfl⟩
    rw [hg] at L hlg8 ⊢
    clear hg
    refine (H2.out _ _ (L.getQ (v := .agg #[.bool (ng a2), .slice A' (zl a2) c', .slice B' (len q) i']) (a := a2) (d := q) (by simp)) L.below).mono ?_
    rintro e w2 ⟨vv, rfl, id, be⟩
    clear cel20 cel21 cel22
    obtain ⟨A9, c9, rfl, _, in9⟩ := id.form
    replace L := (L.step be).n in9
    clear be id in9
    have hl9 := L.b0.lt
    replace L := L.varD w2.heap.size rfl (ng N) A9 (zl N) c9 G
    have cel00 := L.b0.c30
    have cel01 := L.b0.c31
    have cel02 := L.b0.c32
    have cel10 := L.tl.b0.c30
    have cel11 := L.tl.b0.c31
    have cel12 := L.tl.b0.c32
    replace L := L.varI (w2.heap.size + 1) (by simp) (ng M) A8 (zl M) c8 E (ng N) A9 (zl N) c9 G
    have cem00 := L.b0.c60
    have cem01 := L.b0.c61
    have cem02 := L.b0.c62
    have cem03 := L.b0.c63
    have cem04 := L.b0.c64
    have cem05 := L.b0.c65
    have R := L.pick [(gr, 31, #[.bool false, .slice none 0 0, .int .i64 0, .bool false, .slice none 0 0, .int .i64 0])] (by simp)
    have r0 := R.b0.c60
    have s0 := R.b0.fr 0
    have r1 := R.b0.c61
    have s1 := R.b0.fr 1
    have r2 := R.b0.c62
    have s2 := R.b0.fr 2
    have r3 := R.b0.c63
    have s3 := R.b0.fr 3
    have r4 := R.b0.c64
    have s4 := R.b0.fr 4
    have r5 := R.b0.c65
    have s5 := R.b0.fr 5
    go_wp2_with fail
    have LP := R.putI (by omega) (by simp) false none 0 0 0 false none 0 0 0
    have k0' := LP.b0.c60
    have k1' := LP.b0.c61
    have k2' := LP.b0.c62
    have k3' := LP.b0.c63
    have k4' := LP.b0.c64
    have k5' := LP.b0.c65
    unfold put6 at k0' k1' k2' k3' k4' k5'
    exact bodyPost_ret (v := .tuple #[.agg #[.bool false, .slice none 0 0, .int .i64 0, .bool false, .slice none 0 0, .int .i64 0], .int .i64 3]) (by simp [results, Tryz.results156, go_sem, k0', k1', k2', k3', k4', k5']) rfl (by rw [HRT.out, if_neg (fun h => hr1 h.1)]; exact ⟨_, rfl, isI_zero _, LP.below⟩)
  · obtain rfl := of_decide_eq_true hr1
    have HR1 := Lib.hid (rfl : (0 : Int) = 0)
    clear hr1
    cases hr2 : decide (R2 = 0)
    · replace hr2 := of_decide_eq_false hr2
      have e1 : (R2 != 0) = true := by simpa using hr2
      have e2 : (R2 == 0) = false := by simpa using hr2
      clear hsm
      go_enter Tryz.func156, Tryz.ntmps156
      go_wp2_with fail
      have L := (((L0.varQ (w.heap.size) (by simp) (ng a) A B (zl a) c (len d) i).varQ (w.heap.size + 1) (by simp) (ng a2) A' B' (zl a2) c' (len q) i').varI (w.heap.size + 2) (by simp) false none 0 0 0 false none 0 0 0)
      obtain ⟨gr, hgr⟩ : ∃ gr, w.heap.size + 1 + 1 = gr := ⟨_, rfl⟩
      have hgr2 : w.heap.size + 2 = gr := hgr
      rw [hgr2] at L
      rw [hgr]
      have hgw : w.heap.size + 1 < gr := by omega
      clear hgr hgr2
      have cel20 := L.tl.tl.b0.c30
      have cel21 := L.tl.tl.b0.c31
      have cel22 := L.tl.tl.b0.c32
      go_wp2_with fail
      refine (H1.out _ _ (L.getQ (v := .agg #[.bool (ng a), .slice A (zl a) c, .slice B (len d) i]) (a := a) (d := d) (by simp)) L.below).mono ?_
      rintro e w1 ⟨vv, rfl, id, be⟩
      clear cel20 cel21 cel22
      obtain ⟨A8, c8, rfl, _, in9⟩ := id.form
      replace L := (L.step be).n in9
      clear be id in9
      have hlg8 := L.b0.lt
      replace L := L.varD w1.heap.size rfl (ng M) A8 (zl M) c8 E
      have cel20 := L.tl.tl.b0.c30
      have cel21 := L.tl.tl.b0.c31
      have cel22 := L.tl.tl.b0.c32
      go_wp2_with fail
      obtain ⟨g8, hg⟩ : ∃ g, w1.heap.size = g := ⟨_, rfl⟩
      rw [hg] at L hlg8 ⊢
      clear hg
      refine (H2.out _ _ (L.getQ (v := .agg #[.bool (ng a2), .slice A' (zl a2) c', .slice B' (len q) i']) (a := a2) (d := q) (by simp)) L.below).mono ?_
      rintro e w2 ⟨vv, rfl, id, be⟩
      clear cel20 cel21 cel22
      obtain ⟨A9, c9, rfl, _, in9⟩ := id.form
      replace L := (L.step be).n in9
      clear be id in9
      have hl9 := L.b0.lt
      replace L := L.varD w2.heap.size rfl (ng N) A9 (zl N) c9 G
      have cel00 := L.b0.c30
      have cel01 := L.b0.c31
      have cel02 := L.b0.c32
      have cel10 := L.tl.b0.c30
      have cel11 := L.tl.b0.c31
      have cel12 := L.tl.b0.c32
      replace L := L.varI (w2.heap.size + 1) (by simp) (ng M) A8 (zl M) c8 E (ng N) A9 (zl N) c9 G
      have cem00 := L.b0.c60
      have cem01 := L.b0.c61
      have cem02 := L.b0.c62
      have cem03 := L.b0.c63
      have cem04 := L.b0.c64
      have cem05 := L.b0.c65
      have R := L.pick [(gr, 31, #[.bool false, .slice none 0 0, .int .i64 0, .bool false, .slice none 0 0, .int .i64 0])] (by simp)
      have r0 := R.b0.c60
      have s0 := R.b0.fr 0
      have r1 := R.b0.c61
      have s1 := R.b0.fr 1
      have r2 := R.b0.c62
      have s2 := R.b0.fr 2
      have r3 := R.b0.c63
      have s3 := R.b0.fr 3
      have r4 := R.b0.c64
      have s4 := R.b0.fr 4
      have r5 := R.b0.c65
      have s5 := R.b0.fr 5
      go_wp2_with fail
      have LP := R.putI (by omega) (by simp) false none 0 0 0 false none 0 0 0
      have k0' := LP.b0.c60
      have k1' := LP.b0.c61
      have k2' := LP.b0.c62
      have k3' := LP.b0.c63
      have k4' := LP.b0.c64
      have k5' := LP.b0.c65
      unfold put6 at k0' k1' k2' k3' k4' k5'
      exact bodyPost_ret (v := .tuple #[.agg #[.bool false, .slice none 0 0, .int .i64 0, .bool false, .slice none 0 0, .int .i64 0], .int .i64 3]) (by simp [results, Tryz.results156, go_sem, k0', k1', k2', k3', k4', k5']) rfl (by rw [HRT.out, if_neg (fun h => hr2 h.2.1)]; exact ⟨_, rfl, isI_zero _, LP.below⟩)
    · obtain rfl := of_decide_eq_true hr2
      have HR2 := Lib.hid (rfl : (0 : Int) = 0)
      have HS := Lib.hid (hsm.out rfl rfl)
      clear hr2 hsm
      go_enter Tryz.func156, Tryz.ntmps156
      go_wp2_with fail
      have L := (((L0.varQ (w.heap.size) (by simp) (ng a) A B (zl a) c (len d) i).varQ (w.heap.size + 1) (by simp) (ng a2) A' B' (zl a2) c' (len q) i').varI (w.heap.size + 2) (by simp) false none 0 0 0 false none 0 0 0)
      obtain ⟨gr, hgr⟩ : ∃ gr, w.heap.size + 1 + 1 = gr := ⟨_, rfl⟩
      have hgr2 : w.heap.size + 2 = gr := hgr
      rw [hgr2] at L
      rw [hgr]
      have hgw : w.heap.size + 1 < gr := by omega
      clear hgr hgr2
      have cel20 := L.tl.tl.b0.c30
      have cel21 := L.tl.tl.b0.c31
      have cel22 := L.tl.tl.b0.c32
      go_wp2_with fail
      refine (H1.out _ _ (L.getQ (v := .agg #[.bool (ng a), .slice A (zl a) c, .slice B (len d) i]) (a := a) (d := d) (by simp)) L.below).mono ?_
      rintro e w1 ⟨vv, rfl, id, be⟩
      clear cel20 cel21 cel22
      obtain ⟨A8, c8, rfl, _, in9⟩ := id.form
      replace L := (L.step be).n in9
      clear be id in9
      have hlg8 := L.b0.lt
      replace L := L.varD w1.heap.size rfl (ng M) A8 (zl M) c8 E
      have cel20 := L.tl.tl.b0.c30
      have cel21 := L.tl.tl.b0.c31
      have cel22 := L.tl.tl.b0.c32
      go_wp2_with fail
      obtain ⟨g8, hg⟩ : ∃ g, w1.heap.size = g := ⟨_, rfl⟩
      rw [hg] at L hlg8 ⊢
      clear hg
      refine (H2.out _ _ (L.getQ (v := .agg #[.bool (ng a2), .slice A' (zl a2) c', .slice B' (len q) i']) (a := a2) (d := q) (by simp)) L.below).mono ?_
      rintro e w2 ⟨vv, rfl, id, be⟩
      clear cel20 cel21 cel22
      obtain ⟨A9, c9, rfl, _, in9⟩ := id.form
      replace L := (L.step be).n in9
      clear be id in9
      have hl9 := L.b0.lt
      replace L := L.varD w2.heap.size rfl (ng N) A9 (zl N) c9 G
      have cel00 := L.b0.c30
      have cel01 := L.b0.c31
      have cel02 := L.b0.c32
      have cel10 := L.tl.b0.c30
      have cel11 := L.tl.b0.c31
      have cel12 := L.tl.b0.c32
      replace L := L.varI (w2.heap.size + 1) (by simp) (ng M) A8 (zl M) c8 E (ng N) A9 (zl N) c9 G
      have cem00 := L.b0.c60
      have cem01 := L.b0.c61
      have cem02 := L.b0.c62
      have cem03 := L.b0.c63
      have cem04 := L.b0.c64
      have cem05 := L.b0.c65
      go_wp2_with fail
      refine (HS.out _ _ (isI_n (s := .slice A8 (zl M) c8) (t := .slice A9 (zl N) c9) (L.getN (by simp)) (L.getN (by simp)))).mono ?_
      rintro e w3 ⟨rfl, be⟩
      clear cem00 cem01 cem02 cem03 cem04 cem05 cel00 cel01 cel02 cel10 cel11 cel12
      replace L := L.step be
      clear be
      cases b
      · skip
        have cel00 := L.b0.c60
        have cel01 := L.b0.c61
        have cel02 := L.b0.c62
        have cel03 := L.b0.c63
        have cel04 := L.b0.c64
        have cel05 := L.b0.c65
        have R := L.pick [(gr, 31, #[.bool false, .slice none 0 0, .int .i64 0, .bool false, .slice none 0 0, .int .i64 0])] (by simp)
        have r0 := R.b0.c60
        have s0 := R.b0.fr 0
        have r1 := R.b0.c61
        have s1 := R.b0.fr 1
        have r2 := R.b0.c62
        have s2 := R.b0.fr 2
        have r3 := R.b0.c63
        have s3 := R.b0.fr 3
        have r4 := R.b0.c64
        have s4 := R.b0.fr 4
        have r5 := R.b0.c65
        have s5 := R.b0.fr 5
        go_wp2_with fail
        have LP := R.putI (by omega) (by simp) false none 0 0 0 false none 0 0 0
        have k0' := LP.b0.c60
        have k1' := LP.b0.c61
        have k2' := LP.b0.c62
        have k3' := LP.b0.c63
        have k4' := LP.b0.c64
        have k5' := LP.b0.c65
        unfold put6 at k0' k1' k2' k3' k4' k5'
        exact bodyPost_ret (v := .tuple #[.agg #[.bool false, .slice none 0 0, .int .i64 0, .bool false, .slice none 0 0, .int .i64 0], .int .i64 3]) (by simp [results, Tryz.results156, go_sem, k0', k1', k2', k3', k4', k5']) rfl (by rw [HRT.out, if_neg (fun h => (by cases h.2.2))]; exact ⟨_, rfl, isI_zero _, LP.below⟩)
      · skip
        have cel00 := L.b0.c60
        have cel01 := L.b0.c61
        have cel02 := L.b0.c62
        have cel03 := L.b0.c63
        have cel04 := L.b0.c64
        have cel05 := L.b0.c65
        have R := L.pick [(gr, 31, #[.bool false, .slice none 0 0, .int .i64 0, .bool false, .slice none 0 0, .int .i64 0])] (by simp)
        have r0 := R.b0.c60
        have s0 := R.b0.fr 0
        have r1 := R.b0.c61
        have s1 := R.b0.fr 1
        have r2 := R.b0.c62
        have s2 := R.b0.fr 2
        have r3 := R.b0.c63
        have s3 := R.b0.fr 3
        have r4 := R.b0.c64
        have s4 := R.b0.fr 4
        have r5 := R.b0.c65
        have s5 := R.b0.fr 5
        go_wp2_with fail
        have LP := R.putI (by omega) (by simp) (ng M) A8 (zl M) c8 E (ng N) A9 (zl N) c9 G
        have k0' := LP.b0.c60
        have k1' := LP.b0.c61
        have k2' := LP.b0.c62
        have k3' := LP.b0.c63
        have k4' := LP.b0.c64
        have k5' := LP.b0.c65
        unfold put6 at k0' k1' k2' k3' k4' k5'
        exact bodyPost_ret (v := .tuple #[.agg #[.bool (ng M), .slice A8 (zl M) c8, .int .i64 E, .bool (ng N), .slice A9 (zl N) c9, .int .i64 G], .int .i64 0]) (by simp [results, Tryz.results156, go_sem, k0', k1', k2', k3', k4', k5']) rfl (by rw [HRT.out, if_pos ⟨HR1.out, HR2.out, by first | trivial | rfl⟩]; exact ⟨_, rfl, isI_n (LP.getN (by simp)) (LP.getN (by simp)), LP.below⟩)

set_option maxHeartbeats 8000000 in
theorem aconst_any (a : Int) (d : Nat) (k : Int) (vx : Value) (w : World) (hx : IsP w vx a d) (la : zl a ≤ 800) (ld : len d ≤ 800) (hd : 0 < d) (hk1 : -9223372036854775808 ≤ k) (hk2 : k ≤ 9223372036854775807) (hT : Tab w) :
    Calls Tryz.prog 111 #[vx, .int .i64 k] w (RetEn w (Rat.divInt a (d : Int)) (Rat.divInt a (d : Int)) k) := by
  obtain ⟨A, c, B, i, rfl, _, _, _⟩ := hx.form
  have L0 := (Lq.mk0 w).q hx
  have HW0 := fun W => aperm_any k W
  cases hw : workB k
  · rw [hw] at HW0
    have HW := Lib.hid HW0
    have HWK := Lib.hid hw
    clear HW0 hw hx la ld hd hk1 hk2 hT
    go_enter Tryz.func111, Tryz.ntmps111
    go_wp2_with fail
    have L := ((L0.varQ (w.heap.size) (by simp) (ng a) A B (zl a) c (len d) i).varI (w.heap.size + 1) (by simp) false none 0 0 0 false none 0 0 0)
    have c00 := L.b0.c60
    have f00 := L.b0.fr 0
    have c01 := L.b0.c61
    have f01 := L.b0.fr 1
    have c02 := L.b0.c62
    have f02 := L.b0.fr 2
    have c03 := L.b0.c63
    have f03 := L.b0.fr 3
    have c04 := L.b0.c64
    have f04 := L.b0.fr 4
    have c05 := L.b0.c65
    have f05 := L.b0.fr 5
    have c10 := L.tl.b0.c30
    have c11 := L.tl.b0.c31
    have c12 := L.tl.b0.c32
    (try go_wp2_with fail)
    refine (HW.out _).mono ?_
    rintro e9 w' ⟨rfl, rfl⟩
    (try go_wp2_with fail)
    exact bodyPost_ret (v := .tuple #[.agg #[.bool false, .slice none 0 0, .int .i64 0, .bool false, .slice none 0 0, .int .i64 0], .int .i64 1]) (by simp [results, Tryz.results111, go_sem, c00, c01, c02, c03, c04, c05]) rfl (by unfold RetEn; rw [if_neg (by rw [HWK.out]; decide)]; exact ⟨_, rfl, isI_zero _, L.below⟩)
  · rw [hw] at HW0
    have HW := Lib.hid HW0
    have HE := Lib.hid (fun v u W h1 h2 (hW : Below w.heap.size w W) => aenclR_any a d a d k v u W h1 h2 la ld hd la ld hd hw (hT.mono hW))
    generalize Rat.divInt a (d : Int) = q at *
    clear HW0 hw hx la ld hd hk1 hk2 hT
    go_enter Tryz.func111, Tryz.ntmps111
    go_wp2_with fail
    have L := ((L0.varQ (w.heap.size) (by simp) (ng a) A B (zl a) c (len d) i).varI (w.heap.size + 1) (by simp) false none 0 0 0 false none 0 0 0)
    have c00 := L.b0.c60
    have f00 := L.b0.fr 0
    have c01 := L.b0.c61
    have f01 := L.b0.fr 1
    have c02 := L.b0.c62
    have f02 := L.b0.fr 2
    have c03 := L.b0.c63
    have f03 := L.b0.fr 3
    have c04 := L.b0.c64
    have f04 := L.b0.fr 4
    have c05 := L.b0.c65
    have f05 := L.b0.fr 5
    have c10 := L.tl.b0.c30
    have c11 := L.tl.b0.c31
    have c12 := L.tl.b0.c32
    (try go_wp2_with fail)
    refine (HW.out _).mono ?_
    rintro e9 w' ⟨rfl, rfl⟩
    (try go_wp2_with fail)
    refine (HE.out _ _ _ (L.getQ (v := .agg #[.bool (ng a), .slice A (zl a) c, .slice B (len d) i]) (a := a) (d := d) (by simp)) (L.getQ (v := .agg #[.bool (ng a), .slice A (zl a) c, .slice B (len d) i]) (a := a) (d := d) (by simp)) L.below).mono ?_
    intro e9 w19 hen
    obtain ⟨v19, er, m9, e9', n9, f9, rfl, ii, be, hback⟩ := hen.form
    obtain ⟨A5, c5, B5, d5, rfl, ia, ib⟩ := ii.form
    replace L := (((L.step be).n ib).n ia)
    clear be ii ia ib hen
    have HBK := Lib.hid hback
    clear hback
    clear c00 f00 c01 f01 c02 f02 c03 f03 c04 f04 c05 f05 c10 c11 c12
    have c00 := L.b0.c60
    have f00 := L.b0.fr 0
    have c01 := L.b0.c61
    have f01 := L.b0.fr 1
    have c02 := L.b0.c62
    have f02 := L.b0.fr 2
    have c03 := L.b0.c63
    have f03 := L.b0.fr 3
    have c04 := L.b0.c64
    have f04 := L.b0.fr 4
    have c05 := L.b0.c65
    have f05 := L.b0.fr 5
    go_wp2_with fail
    have LP := L.putI (by omega) (by first | (simp; done) | (simp; omega)) (ng m9) A5 (zl m9) c5 e9' (ng n9) B5 (zl n9) d5 f9
    have k0' := LP.b0.c60
    have k1' := LP.b0.c61
    have k2' := LP.b0.c62
    have k3' := LP.b0.c63
    have k4' := LP.b0.c64
    have k5' := LP.b0.c65
    unfold put6 at k0' k1' k2' k3' k4' k5'
    exact bodyPost_ret (v := .tuple #[.agg #[.bool (ng m9), .slice A5 (zl m9) c5, .int .i64 e9', .bool (ng n9), .slice B5 (zl n9) d5, .int .i64 f9], .int .i64 er]) (by simp [results, Tryz.results111, go_sem, k0', k1', k2', k3', k4', k5']) rfl (HBK.out _ _ _ (isI_n (LP.getN (by simp)) (LP.getN (by simp))) LP.below)


end Go.Proofs.YtfnklkdbieikeaaGreatDoor
