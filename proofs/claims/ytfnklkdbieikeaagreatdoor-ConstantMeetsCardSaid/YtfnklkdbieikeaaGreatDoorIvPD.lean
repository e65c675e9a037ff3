/- The program's dyadic.Shift; interval's Width, Mid. -/
import Derived.Test.YtfnklkdbieikeaaGreatDoorBaseW
import Derived.Test.YtfnklkdbieikeaaGreatDoorBaseG
import Derived.Deep.RegionHeld3
import Derived.Deep.DrawnRows
namespace Go.Proofs.YtfnklkdbieikeaaGreatDoor
open Go.RowKit
set_option linter.unusedVariables false
set_option linter.unusedSimpArgs false
set_option maxRecDepth 100000
attribute [local go_sem ↓] Go.wp_at_zero Go.wp_at_succ

set_option maxHeartbeats 4000000 in
theorem dshift_any (m e k : Int) (vx : Value) (w : World) (hx : IsD w vx m e) (lm : zl m ≤ 20000) (he : -1000000 ≤ e ∧ e ≤ 1000000) (hk : -65536 ≤ k ∧ k ≤ 65536) (hT : Tab w) :
    Calls Tryz.prog 115 #[vx, .int .i64 k] w (RetDE w (mkM m (e + k)) (mkE m (e + k)) (mkR m (e + k))) := by
  obtain ⟨A, c, rfl, hz, hn⟩ := hx.form
  have L0 := (Lq.mk0 w).z hz
  obtain ⟨s, hs⟩ : ∃ s, e + k = s := ⟨_, rfl⟩
  have hw : IntKind.i64.wrap (e + k) = s := by rw [← hs, IntKind.wrap_i64]; omega
  have hw0 := fun W => within_any k 65536 W (by omega) (by omega)
  have hin : (decide (-65536 ≤ k) && decide (k ≤ 65536)) = true := by rw [decide_eq_true hk.1, decide_eq_true hk.2]; rfl
  rw [hin] at hw0
  have HW := Lib.hid hw0
  have HM0 := fun v W h (hW : Below w.heap.size w W) => dmake_any m s v W h (by omega) (hT.mono hW)
  rw [hs]
  generalize mkM m s = M at *
  generalize mkE m s = E at *
  generalize mkR m s = R at *
  have HM := Lib.hid HM0
  clear HM0 hw0 hin hs hx hz hn lm he hk hT
  go_enter Tryz.func115, Tryz.ntmps115
  go_wp2_with fail
  have L := ((L0.varD (w.heap.size) (by simp) (ng m) A (zl m) c e).varD (w.heap.size + 1) (by simp) false none 0 0 0)
  have c00 := L.b0.c30
  have f00 := L.b0.fr 0
  have c01 := L.b0.c31
  have f01 := L.b0.fr 1
  have c02 := L.b0.c32
  have f02 := L.b0.fr 2
  have c10 := L.tl.b0.c30
  have f10 := L.tl.b0.fr 0
  have c11 := L.tl.b0.c31
  have f11 := L.tl.b0.fr 1
  have c12 := L.tl.b0.c32
  have f12 := L.tl.b0.fr 2
  (try go_wp2_with fail)
  refine (HW.out _).mono ?_
  rintro e9 w' ⟨rfl, rfl⟩
  (try go_wp2_with fail)
  refine (HM.out _ _ (L.getZ (v := .agg #[.bool (ng m), .slice A (zl m) c]) (by simp)) L.below).mono ?_
  rintro e w1 ⟨v8, rfl, id, be⟩
  clear c00 f00 c01 f01 c02 f02 c10 f10 c11 f11 c12 f12
  obtain ⟨A9, c9, rfl, _, in9⟩ := id.form
  replace L := (L.step be).n in9
  clear be in9 id
  have c00 := L.b0.c30
  have f00 := L.b0.fr 0
  have c01 := L.b0.c31
  have f01 := L.b0.fr 1
  have c02 := L.b0.c32
  have f02 := L.b0.fr 2
  have c10 := L.tl.b0.c30
  have c11 := L.tl.b0.c31
  have c12 := L.tl.b0.c32
  (try go_wp2_with fail)
  have LP := L.putD (by omega) (by first | (simp; done) | (simp; omega)) (ng M) A9 (zl M) c9 (E)
  have k0 := LP.b0.c30
  have k1 := LP.b0.c31
  have k2 := LP.b0.c32
  unfold put3 at k0 k1 k2
  exact bodyPost_ret (v := .tuple #[.agg #[.bool (ng M), .slice A9 (zl M) c9, .int .i64 (E)], .int .i64 R]) (by simp [results, Tryz.results115, go_sem, k0, k1, k2]) rfl ⟨_, rfl, isD_n LP.hn, LP.below⟩
set_option maxHeartbeats 4000000 in
theorem i10width_any (m e n f : Int) (vx : Value) (w : World) (hx : IsI w vx m e n f) (lm : zl m ≤ 1000) (ln : zl n ≤ 1000) (he : -20000 ≤ e ∧ e ≤ 20000) (hf : -20000 ≤ f ∧ f ≤ 20000) (hT : Tab w) :
    Calls Tryz.prog 41 #[vx] w (RetDE w (mkM (addS n f (-m) e) (min f e)) (mkE (addS n f (-m) e) (min f e)) (mkR (addS n f (-m) e) (min f e))) := by
  obtain ⟨A, c, B, d, rfl, hn1, hn2⟩ := hx.form
  have L0 := ((Lq.mk0 w).n hn2).n hn1
  have HM := Lib.hid (fun v u W h1 h2 (hW : Below w.heap.size w W) => dsub_any n f m e v u W h1 h2 (by omega) (by omega) (by omega) (by omega) (hT.mono hW))
  generalize mkM (addS n f (-m) e) (min f e) = M at *
  generalize mkE (addS n f (-m) e) (min f e) = E at *
  generalize mkR (addS n f (-m) e) (min f e) = R at *
  clear hx hn1 hn2 lm ln he hf hT
  go_enter Tryz.func41, Tryz.ntmps41
  go_wp2_with fail
  have L := ((L0.varI (w.heap.size) (by simp) (ng m) A (zl m) c e (ng n) B (zl n) d f).varD (w.heap.size + 1) (by simp) false none 0 0 0)
  have c00 := L.b0.c30
  have f00 := L.b0.fr 0
  have c01 := L.b0.c31
  have f01 := L.b0.fr 1
  have c02 := L.b0.c32
  have f02 := L.b0.fr 2
  have c10 := L.tl.b0.c60
  have c11 := L.tl.b0.c61
  have c12 := L.tl.b0.c62
  have c13 := L.tl.b0.c63
  have c14 := L.tl.b0.c64
  have c15 := L.tl.b0.c65
  (try go_wp2_with fail)
  refine (HM.out _ _ _ (isD_n (m := n) (e := f) (s := .slice B (zl n) d) (L.getN (v := .slice B (zl n) d) (x := (n).natAbs) (by simp))) (isD_n (m := m) (e := e) (s := .slice A (zl m) c) (L.getN (v := .slice A (zl m) c) (x := (m).natAbs) (by simp))) L.below).mono ?_
  rintro e w1 ⟨v8, rfl, id, be⟩
  clear c00 f00 c01 f01 c02 f02 c10 c11 c12 c13 c14 c15
  obtain ⟨A9, c9, rfl, _, in9⟩ := id.form
  replace L := (L.step be).n in9
  clear be in9 id
  have c00 := L.b0.c30
  have f00 := L.b0.fr 0
  have c01 := L.b0.c31
  have f01 := L.b0.fr 1
  have c02 := L.b0.c32
  have f02 := L.b0.fr 2
  have c10 := L.tl.b0.c60
  have c11 := L.tl.b0.c61
  have c12 := L.tl.b0.c62
  have c13 := L.tl.b0.c63
  have c14 := L.tl.b0.c64
  have c15 := L.tl.b0.c65
  (try go_wp2_with fail)
  have LP := L.putD (by omega) (by first | (simp; done) | (simp; omega)) (ng M) A9 (zl M) c9 (E)
  have k0 := LP.b0.c30
  have k1 := LP.b0.c31
  have k2 := LP.b0.c32
  unfold put3 at k0 k1 k2
  exact bodyPost_ret (v := .tuple #[.agg #[.bool (ng M), .slice A9 (zl M) c9, .int .i64 (E)], .int .i64 R]) (by simp [results, Tryz.results41, go_sem, k0, k1, k2]) rfl ⟨_, rfl, isD_n LP.hn, LP.below⟩
end Go.Proofs.YtfnklkdbieikeaaGreatDoor
