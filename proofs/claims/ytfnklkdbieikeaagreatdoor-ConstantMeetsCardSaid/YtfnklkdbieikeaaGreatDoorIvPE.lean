/- The program's interval: Out. -/
import Derived.Test.YtfnklkdbieikeaaGreatDoorBaseW
import Derived.Test.YtfnklkdbieikeaaGreatDoorBaseU
import Derived.Deep.RegionHeld3
import Derived.Deep.DrawnRows
namespace Go.Proofs.YtfnklkdbieikeaaGreatDoor
open Go.RowKit
set_option linter.unusedVariables false
set_option linter.unusedSimpArgs false
set_option maxRecDepth 100000
attribute [local go_sem ↓] Go.wp_at_zero Go.wp_at_succ

set_option maxHeartbeats 8000000 in
theorem i10out_no (m e n f p : Int) (vx : Value) (w : World) (hx : IsI w vx m e n f) (lm : zl m ≤ 1000) (ln : zl n ≤ 1000) (he : -20000 ≤ e ∧ e ≤ 20000) (hf : -20000 ≤ f ∧ f ≤ 20000) (hp1 : -9223372036854775808 ≤ p) (hp2 : p ≤ 9223372036854775807) (hp : permB p = false) (hT : Tab w) :
    Calls Tryz.prog 117 #[vx, .int .i64 p] w (RetIE w 0 0 0 0 1) := by
  obtain ⟨A, c, B, d, rfl, hn1, hn2⟩ := hx.form
  have L0 := ((Lq.mk0 w).n hn2).n hn1
  have h1 := fun v W h (hW : Below w.heap.size w W) => gfloor_any m e p v W h (by omega) (by omega) hp1 hp2 (hT.mono hW)
  have h2 := fun v W h (hW : Below w.heap.size w W) => gceil_any n f p v W h (by omega) (by omega) hp1 hp2 (hT.mono hW)
  rw [(g_no hp (cutQ (dq m e) p)).1, (g_no hp (cutQ (dq m e) p)).2.1, (g_no hp (cutQ (dq m e) p)).2.2] at h1
  rw [(g_no hp (-(cutQ (-(dq n f)) p))).1, (g_no hp (-(cutQ (-(dq n f)) p))).2.1, (g_no hp (-(cutQ (-(dq n f)) p))).2.2] at h2
  have H1 := Lib.hid h1
  have H2 := Lib.hid h2
  clear h1 h2 hx hn1 hn2 lm ln he hf hp1 hp2 hp hT
  go_enter Tryz.func117, Tryz.ntmps117
  go_wp2_with fail
  have L := ((L0.varI (w.heap.size) (by simp) (ng m) A (zl m) c e (ng n) B (zl n) d f).varI (w.heap.size + 1) (by simp) false none 0 0 0 false none 0 0 0)
  have c00 := L.b0.c60
  have f00 := L.b0.fr 0
  have c01 := L.b0.c61
  have f01 := L.b0.fr 1
  have c02 := L.b0.c62
  have f02 := L.b0.fr 2
  have c03 := L.b0.c63
  have f03 := L.b0.fr 3
  have c04 := L.b0.c64
  have f04 := L.b0.fr 4
  have c05 := L.b0.c65
  have f05 := L.b0.fr 5
  have c10 := L.tl.b0.c60
  have c11 := L.tl.b0.c61
  have c12 := L.tl.b0.c62
  have c13 := L.tl.b0.c63
  have c14 := L.tl.b0.c64
  have c15 := L.tl.b0.c65
  (try go_wp2_with fail)
  refine (H1.out _ _ (isD_n (m := m) (e := e) (s := .slice A (zl m) c) (L.getN (v := .slice A (zl m) c) (x := (m).natAbs) (by simp))) L.below).mono ?_
  rintro e w1 ⟨vv, rfl, id, be⟩
  clear c00 f00 c01 f01 c02 f02 c03 f03 c04 f04 c05 f05 c10 c11 c12 c13 c14 c15
  obtain ⟨A8, c8, rfl, _, in9⟩ := id.form
  replace L := (L.step be).n in9
  clear be id in9
  have hlg := L.b0.lt
  have n2 : w.heap.size + 1 ≠ w1.heap.size := by omega
  have c00 := L.b0.c60
  have f00 := L.b0.fr 0
  have c01 := L.b0.c61
  have f01 := L.b0.fr 1
  have c02 := L.b0.c62
  have f02 := L.b0.fr 2
  have c03 := L.b0.c63
  have f03 := L.b0.fr 3
  have c04 := L.b0.c64
  have f04 := L.b0.fr 4
  have c05 := L.b0.c65
  have f05 := L.b0.fr 5
  have LN := L.varD w1.heap.size rfl (ng 0) A8 (zl 0) c8 0
  have v00 := LN.b0.c30
  have v01 := LN.b0.c31
  have v02 := LN.b0.c32
  go_wp2_with fail
  have LP0 := L.putI (by omega) (by first | (simp; done) | (simp; omega)) false none 0 0 0 false none 0 0 0
  have LP := LP0.varD _ rfl (ng 0) A8 (zl 0) c8 0
  have k0 := LP.tl.b0.c60
  have k1 := LP.tl.b0.c61
  have k2 := LP.tl.b0.c62
  have k3 := LP.tl.b0.c63
  have k4 := LP.tl.b0.c64
  have k5 := LP.tl.b0.c65
  unfold put6 at k0 k1 k2 k3 k4 k5
  exact bodyPost_ret (v := .tuple #[.agg #[.bool false, .slice none 0 0, .int .i64 0, .bool false, .slice none 0 0, .int .i64 0], .int .i64 1]) (by simp [results, Tryz.results117, go_sem, k0, k1, k2, k3, k4, k5]) rfl ⟨_, rfl, isI_zero _, LP.below⟩
set_option maxHeartbeats 8000000 in
theorem i10out_yes (m e n f p : Int) (vx : Value) (w : World) (hx : IsI w vx m e n f) (lm : zl m ≤ 1000) (ln : zl n ≤ 1000) (he : -20000 ≤ e ∧ e ≤ 20000) (hf : -20000 ≤ f ∧ f ≤ 20000) (hp1 : -9223372036854775808 ≤ p) (hp2 : p ≤ 9223372036854775807) (hp : permB p = true) (r1 : mkR (cutQ (dq m e) p) (-p) = 0) (r2 : mkR (-(cutQ (-(dq n f)) p)) (-p) = 0) (hT : Tab w) :
    Calls Tryz.prog 117 #[vx, .int .i64 p] w (RetIE w (mkM (cutQ (dq m e) p) (-p)) (mkE (cutQ (dq m e) p) (-p)) (mkM (-(cutQ (-(dq n f)) p)) (-p)) (mkE (-(cutQ (-(dq n f)) p)) (-p)) 0) := by
  obtain ⟨A, c, B, d, rfl, hn1, hn2⟩ := hx.form
  have L0 := ((Lq.mk0 w).n hn2).n hn1
  have h1 := fun v W h (hW : Below w.heap.size w W) => gfloor_any m e p v W h (by omega) (by omega) hp1 hp2 (hT.mono hW)
  have h2 := fun v W h (hW : Below w.heap.size w W) => gceil_any n f p v W h (by omega) (by omega) hp1 hp2 (hT.mono hW)
  rw [(g_yes hp (cutQ (dq m e) p)).1, (g_yes hp (cutQ (dq m e) p)).2.1, (g_yes hp (cutQ (dq m e) p)).2.2] at h1
  rw [(g_yes hp (-(cutQ (-(dq n f)) p))).1, (g_yes hp (-(cutQ (-(dq n f)) p))).2.1, (g_yes hp (-(cutQ (-(dq n f)) p))).2.2] at h2
  rw [r1] at h1
  rw [r2] at h2
  generalize mkM (cutQ (dq m e) p) (-p) = M at *
  generalize mkE (cutQ (dq m e) p) (-p) = E at *
  generalize mkM (-(cutQ (-(dq n f)) p)) (-p) = N at *
  generalize mkE (-(cutQ (-(dq n f)) p)) (-p) = G at *
  have H1 := Lib.hid h1
  have H2 := Lib.hid h2
  clear h1 h2 hx hn1 hn2 lm ln he hf hp1 hp2 hp hT r1 r2
  go_enter Tryz.func117, Tryz.ntmps117
  go_wp2_with fail
  have L := ((L0.varI (w.heap.size) (by simp) (ng m) A (zl m) c e (ng n) B (zl n) d f).varI (w.heap.size + 1) (by simp) false none 0 0 0 false none 0 0 0)
  have c00 := L.b0.c60
  have f00 := L.b0.fr 0
  have c01 := L.b0.c61
  have f01 := L.b0.fr 1
  have c02 := L.b0.c62
  have f02 := L.b0.fr 2
  have c03 := L.b0.c63
  have f03 := L.b0.fr 3
  have c04 := L.b0.c64
  have f04 := L.b0.fr 4
  have c05 := L.b0.c65
  have f05 := L.b0.fr 5
  have c10 := L.tl.b0.c60
  have c11 := L.tl.b0.c61
  have c12 := L.tl.b0.c62
  have c13 := L.tl.b0.c63
  have c14 := L.tl.b0.c64
  have c15 := L.tl.b0.c65
  (try go_wp2_with fail)
  refine (H1.out _ _ (isD_n (m := m) (e := e) (s := .slice A (zl m) c) (L.getN (v := .slice A (zl m) c) (x := (m).natAbs) (by simp))) L.below).mono ?_
  rintro e w1 ⟨vv, rfl, id, be⟩
  clear c00 f00 c01 f01 c02 f02 c03 f03 c04 f04 c05 f05 c10 c11 c12 c13 c14 c15
  obtain ⟨A8, c8, rfl, _, in9⟩ := id.form
  replace L := (L.step be).n in9
  clear be id in9
  have hlg := L.b0.lt
  replace L := L.varD w1.heap.size rfl (ng M) A8 (zl M) c8 E
  have c00 := L.b0.c30
  have c01 := L.b0.c31
  have c02 := L.b0.c32
  have c20 := L.tl.tl.b0.c60
  have c21 := L.tl.tl.b0.c61
  have c22 := L.tl.tl.b0.c62
  have c23 := L.tl.tl.b0.c63
  have c24 := L.tl.tl.b0.c64
  have c25 := L.tl.tl.b0.c65
  go_wp2_with fail
  obtain ⟨g, hg⟩ : ∃ g, w1.heap.size = g := ⟨_, rfl⟩
  rw [hg] at L hlg c00 c01 c02 ⊢
  clear hg
  refine (H2.out _ _ (isD_n (m := n) (e := f) (s := .slice B (zl n) d) (L.getN (v := .slice B (zl n) d) (x := (n).natAbs) (by simp))) L.below).mono ?_
  rintro e w2 ⟨vv, rfl, id, be⟩
  clear c00 c01 c02 c20 c21 c22 c23 c24 c25
  obtain ⟨A9, c9, rfl, _, in9⟩ := id.form
  replace L := (L.step be).n in9
  clear be id in9
  have hlk9 := L.b0.lt
  replace L := L.varD w2.heap.size rfl (ng N) A9 (zl N) c9 G
  have n1 : w.heap.size + 1 ≠ g := by omega
  have n2 : w.heap.size + 1 ≠ w2.heap.size := by omega
  replace L := L.pull2
  have c00 := L.b0.c60
  have f00 := L.b0.fr 0
  have c01 := L.b0.c61
  have f01 := L.b0.fr 1
  have c02 := L.b0.c62
  have f02 := L.b0.fr 2
  have c03 := L.b0.c63
  have f03 := L.b0.fr 3
  have c04 := L.b0.c64
  have f04 := L.b0.fr 4
  have c05 := L.b0.c65
  have f05 := L.b0.fr 5
  have c10 := L.tl.b0.c30
  have c11 := L.tl.b0.c31
  have c12 := L.tl.b0.c32
  have c20 := L.tl.tl.b0.c30
  have c21 := L.tl.tl.b0.c31
  have c22 := L.tl.tl.b0.c32
  go_wp2_with fail
  have LP := L.putI (by omega) (by simp [n1, n2, Ne.symm n1, Ne.symm n2]) (ng M) A8 (zl M) c8 E (ng N) A9 (zl N) c9 G
  have k0 := LP.b0.c60
  have k1 := LP.b0.c61
  have k2 := LP.b0.c62
  have k3 := LP.b0.c63
  have k4 := LP.b0.c64
  have k5 := LP.b0.c65
  unfold put6 at k0 k1 k2 k3 k4 k5
  exact bodyPost_ret (v := .tuple #[.agg #[.bool (ng M), .slice A8 (zl M) c8, .int .i64 E, .bool (ng N), .slice A9 (zl N) c9, .int .i64 G], .int .i64 0]) (by simp [results, Tryz.results117, go_sem, k0, k1, k2, k3, k4, k5]) rfl ⟨_, rfl, isI_n (LP.getN (by simp)) (LP.getN (by simp)), LP.below⟩

end Go.Proofs.YtfnklkdbieikeaaGreatDoor
