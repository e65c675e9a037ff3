/- Walks: integer.DivMod. -/
import Derived.Test.YtajegednakenbaaDoorIntC
import Derived.Test.YtajegednakenbaaDoorQuotE
import Derived.Deep.RegionHeld3
import Derived.Deep.DrawnRows
namespace Go.Proofs.YtajegednakenbaaDoor
open Go.RowKit
set_option linter.unusedVariables false
set_option linter.unusedSimpArgs false
attribute [local go_sem ↓] Go.wp_at_zero Go.wp_at_succ

/-- A quotient and a remainder, and true; zero values and false. -/
def RetZQ (w : World) (q r : Int) (e : Ending) (w' : World) : Prop := ∃ vq vr, e = .returned (.tuple #[vq, vr, .bool true]) ∧ IsZ w' vq q ∧ IsZ w' vr r ∧ Below w.heap.size w w'
def RetZ0 (w : World) (e : Ending) (w' : World) : Prop := e = .returned (.tuple #[.agg #[.bool false, .slice none 0 0], .agg #[.bool false, .slice none 0 0], .bool false]) ∧ Below w.heap.size w w'

set_option maxHeartbeats 1000000 in
theorem zdivmod_zero (x : Int) (vx vy : Value) (w : World) (hx : IsZ w vx x) (hy : IsZ w vy 0) (lx : zl x ≤ 268435456) :
    Calls Tryd.prog 33 #[vx, vy] w (RetZ0 w) := by
  obtain ⟨A, c, rfl, ix⟩ := hx.form
  obtain ⟨B, d, rfl, iy⟩ := hy.form
  have hlx := abs_le lx
  have L0 := ((Lz.mk0 w).n iy).n ix
  rw [zl_zero, show ng 0 = false from rfl] at *
  clear hx hy ix iy
  have HD := Lib.hid (fun W h1 h2 => divmod_zero x.natAbs (.slice A (zl x) c) (.slice B 0 d) W h1 h2 (by omega))
  generalize ng x = b at *
  go_enter Tryd.func33, Tryd.ntmps33
  go_wp2_with fail
  have L := ((((L0.box (w.heap.size) (by simp) b A (zl x) c).box (w.heap.size + 1) (by simp) false B 0 d).box (w.heap.size + 2) (by simp) false none 0 0).box (w.heap.size + 3) (by simp) false none 0 0)
  have c00 := L.b0.c0
  have c01 := L.b0.c1
  have f00 := L.b0.fr 0
  have f01 := L.b0.fr 1
  have c10 := L.tl.b0.c0
  have c11 := L.tl.b0.c1
  have c20 := L.tl.tl.b0.c0
  have c21 := L.tl.tl.b0.c1
  have c30 := L.tl.tl.tl.b0.c0
  have c31 := L.tl.tl.tl.b0.c1
  refine (HD.out _ (L.getN (by simp)) (L.getN (by simp))).mono ?_
  rintro e w1 ⟨rfl, be⟩
  clear c00 c01 f00 f01 c10 c11 c20 c21 c30 c31
  replace L := L.step be
  clear be HD
  have c00 := L.b0.c0
  have c01 := L.b0.c1
  have f00 := L.b0.fr 0
  have f01 := L.b0.fr 1
  have c10 := L.tl.b0.c0
  have c11 := L.tl.b0.c1
  have f10 := L.tl.b0.fr 0
  have f11 := L.tl.b0.fr 1
  have c20 := L.tl.tl.b0.c0
  have c21 := L.tl.tl.b0.c1
  have c30 := L.tl.tl.tl.b0.c0
  have c31 := L.tl.tl.tl.b0.c1
  go_wp2_with fail
  have LP := L.swap.put (by omega) (by simp) false none 0 0
  have LQ := LP.swap.put (by omega) (by simp) false none 0 0
  have k0 := LQ.b0.c0
  have k1 := LQ.b0.c1
  have k2 := LQ.tl.b0.c0
  have k3 := LQ.tl.b0.c1
  unfold put2 at k0 k1 k2 k3
  exact bodyPost_ret (v := .tuple #[.agg #[.bool false, .slice none 0 0], .agg #[.bool false, .slice none 0 0], .bool false]) (by simp [results, Tryd.results33, go_sem, k0, k1, k2, k3]) rfl ⟨rfl, LQ.below⟩

set_option maxHeartbeats 2000000 in
theorem zdivmod_any (x y : Int) (vx vy : Value) (w : World) (hx : IsZ w vx x) (hy : IsZ w vy y) (lx : zl x ≤ 268435456) (ly : zl y ≤ 268435456) (hy0 : y ≠ 0) :
    Calls Tryd.prog 33 #[vx, vy] w (RetZQ w (x.fdiv y) (x.fmod y)) := by
  obtain ⟨A, c, rfl, ix⟩ := hx.form
  obtain ⟨B, d, rfl, iy⟩ := hy.form
  have hlx := abs_le lx
  have hly := abs_le ly
  have L0 := ((Lz.mk0 w).n iy).n ix
  clear hx hy ix iy
  have hy1 : 0 < y.natAbs := by omega
  have HD := Lib.hid (fun W h1 h2 => divmod_any x.natAbs y.natAbs (.slice A (zl x) c) (.slice B (zl y) d) W h1 h2 (by omega) (by omega) hy1)
  have hlq := len_div x.natAbs y.natAbs
  have hlr := len_mod (x := x.natAbs) hy1
  have hmr := Nat.mod_lt x.natAbs hy1
  have hl11 : len 1 ≤ 1 := len_le1 (by omega)
  have hl1 := len_add (x.natAbs / y.natAbs) 1
  have hls := len_sub y.natAbs (x.natAbs % y.natAbs)
  by_cases hs : ng x = ng y
  · have HA := floor_same hy0 hs
    rw [hs] at *
    rw [show ((x.natAbs / y.natAbs : Nat) : Int) = sg false (x.natAbs / y.natAbs) from rfl] at HA
    have HQ := Lib.hid HA.1.symm
    have HR := Lib.hid HA.2.symm
    clear HA
    obtain ⟨q, hq⟩ : ∃ q, x.natAbs / y.natAbs = q := ⟨_, rfl⟩
    obtain ⟨r, hr⟩ : ∃ r, x.natAbs % y.natAbs = r := ⟨_, rfl⟩
    rw [hq, hr] at HD
    rw [hq] at HQ hlq hl1
    rw [hr] at HR hlr hmr hls
    clear hq hr
    have hzr := trivial
    obtain ⟨qf, hqf⟩ : ∃ qf, x.fdiv y = qf := ⟨_, rfl⟩
    obtain ⟨rf, hrf⟩ : ∃ rf, x.fmod y = rf := ⟨_, rfl⟩
    rw [hqf] at HQ ⊢
    rw [hrf] at HR ⊢
    clear hqf hrf
    clear hs hy0
    generalize ng y = b2 at *
    go_enter Tryd.func33, Tryd.ntmps33
    go_wp2_with fail
    have L := ((((L0.box (w.heap.size) (by simp) b2 A (zl x) c).box (w.heap.size + 1) (by simp) b2 B (zl y) d).box (w.heap.size + 2) (by simp) false none 0 0).box (w.heap.size + 3) (by simp) false none 0 0)
    have c00 := L.b0.c0
    have c01 := L.b0.c1
    have c10 := L.tl.b0.c0
    have c11 := L.tl.b0.c1
    have c20 := L.tl.tl.b0.c0
    have c21 := L.tl.tl.b0.c1
    have c30 := L.tl.tl.tl.b0.c0
    have c31 := L.tl.tl.tl.b0.c1
    refine (HD.out _ (L.getN (by simp)) (L.getN (by simp))).mono ?_
    rintro e w1 ⟨vq, vr, rfl, oq, or, be⟩
    clear c00 c01 c10 c11 c20 c21 c30 c31
    replace L := ((L.step be).n (isN_of_own (x := q) oq rfl)).n (isN_of_own (x := r) or rfl)
    clear oq or be HD
    obtain ⟨A1, c1, rfl⟩ := L.hn.form
    have c00 := L.b0.c0
    have c01 := L.b0.c1
    have c10 := L.tl.b0.c0
    have c11 := L.tl.b0.c1
    have c20 := L.tl.tl.b0.c0
    have c21 := L.tl.tl.b0.c1
    have c30 := L.tl.tl.tl.b0.c0
    have c31 := L.tl.tl.tl.b0.c1
    clear c00 c01 c10 c11 c20 c21 c30 c31
    have c00 := L.b0.c0
    have c01 := L.b0.c1
    have c10 := L.tl.b0.c0
    have c11 := L.tl.b0.c1
    have c20 := L.tl.tl.b0.c0
    have c21 := L.tl.tl.b0.c1
    have c30 := L.tl.tl.tl.b0.c0
    have c31 := L.tl.tl.tl.b0.c1
    go_wp2_with fail
    replace L := L.drew
    skip
    go_region_held3 (fun w' => w'.cell? ⟨w.heap.size + 1, 0, none⟩ = some (.bool b2)) (first | (with_reducible exact L.tl.tl.b0.c0) | (have LP := L.swap.put (by omega) (by simp) (ng (sg false q)) A8 (zl (sg false q)) c8; unfold put2 at LP; have kk := LP.tl.tl.b0.c0; simpa using kk) | (have LP := L.swap.put (by omega) (by simp) (ng (sg false q)) A8 (zl (sg false q)) c8; have LQ := LP.swap.put (by omega) (by simp) (ng (sg b2 r)) A9 (zl (sg b2 r)) c9; unfold put2 at LQ; have kk := LQ.tl.tl.b0.c0; simpa using kk)) (first | (go_at_call 40; (with_reducible refine (signed_any false q _ _ (L.getN (by simp)) (by omega)).mono ?_); rintro e w8 ⟨v8, rfl, iz, be⟩; replace L := (L.step be).z iz; obtain ⟨A8, c8, rfl, _⟩ := iz.form; clear be iz) | (go_at_call 40; (with_reducible refine (signed_any b2 r _ _ (L.getN (by simp)) (by omega)).mono ?_); rintro e w9 ⟨v9, rfl, iz, be⟩; replace L := (L.step be).z iz; obtain ⟨A9, c9, rfl, _⟩ := iz.form; clear be iz; have d0 := L.tl.b0.c0; have d1 := L.tl.b0.c1; have g0 := L.tl.b0.fr 0; have g1 := L.tl.b0.fr 1; have e0 := L.b0.c0; have e1 := L.b0.c1; have h0 := L.b0.fr 0; have h1 := L.b0.fr 1))
    clear c00 c01 c10 c11 c20 c21 c30 c31
    go_wp2_with fail
    have LP := L.swap.put (by omega) (by simp) (ng (sg false q)) A8 (zl (sg false q)) c8
    have LQ := LP.swap.put (by omega) (by simp) (ng (sg b2 r)) A9 (zl (sg b2 r)) c9
    have k0 := LQ.b0.c0
    have k1 := LQ.b0.c1
    have k2 := LQ.tl.b0.c0
    have k3 := LQ.tl.b0.c1
    unfold put2 at k0 k1 k2 k3
    exact bodyPost_ret (v := .tuple #[.agg #[.bool (ng (sg false q)), .slice A8 (zl (sg false q)) c8], .agg #[.bool (ng (sg b2 r)), .slice A9 (zl (sg b2 r)) c9], .bool true]) (by simp [results, Tryd.results33, go_sem, k0, k1, k2, k3]) rfl ⟨_, _, rfl, HQ.out ▸ LQ.getZ (by simp), HR.out ▸ LQ.getZ (by simp), LQ.below⟩
  · have hbb : (ng x == ng y) = false := by rw [beq_eq_false_iff_ne]; exact hs
    rcases Nat.eq_zero_or_pos (x.natAbs % y.natAbs) with hz | hz
    · have HA := floor_exact hy0 hs hz
      rw [show (0 : Int) = sg (ng y) (x.natAbs % y.natAbs) from by rw [hz]; cases ng y <;> rfl] at HA
      have HQ := Lib.hid HA.1.symm
      have HR := Lib.hid HA.2.symm
      clear HA
      obtain ⟨q, hq⟩ : ∃ q, x.natAbs / y.natAbs = q := ⟨_, rfl⟩
      obtain ⟨r, hr⟩ : ∃ r, x.natAbs % y.natAbs = r := ⟨_, rfl⟩
      rw [hq, hr] at HD
      rw [hq] at HQ hlq hl1
      rw [hr] at HR hlr hmr hls hz
      clear hq hr
      have hzr := hz
      subst hz
      obtain ⟨qf, hqf⟩ : ∃ qf, x.fdiv y = qf := ⟨_, rfl⟩
      obtain ⟨rf, hrf⟩ : ∃ rf, x.fmod y = rf := ⟨_, rfl⟩
      rw [hqf] at HQ ⊢
      rw [hrf] at HR ⊢
      clear hqf hrf
      clear hs hy0
      generalize ng x = b at *
      generalize ng y = b2 at *
      go_enter Tryd.func33, Tryd.ntmps33
      go_wp2_with fail
      have L := ((((L0.box (w.heap.size) (by simp) b A (zl x) c).box (w.heap.size + 1) (by simp) b2 B (zl y) d).box (w.heap.size + 2) (by simp) false none 0 0).box (w.heap.size + 3) (by simp) false none 0 0)
      have c00 := L.b0.c0
      have c01 := L.b0.c1
      have c10 := L.tl.b0.c0
      have c11 := L.tl.b0.c1
      have c20 := L.tl.tl.b0.c0
      have c21 := L.tl.tl.b0.c1
      have c30 := L.tl.tl.tl.b0.c0
      have c31 := L.tl.tl.tl.b0.c1
      refine (HD.out _ (L.getN (by simp)) (L.getN (by simp))).mono ?_
      rintro e w1 ⟨vq, vr, rfl, oq, or, be⟩
      clear c00 c01 c10 c11 c20 c21 c30 c31
      replace L := ((L.step be).n (isN_of_own (x := q) oq rfl)).n (isN_of_own (x := 0) or rfl)
      clear oq or be HD
      obtain ⟨A1, c1, rfl⟩ := L.hn.form
      rw [len_zero] at *
      have c00 := L.b0.c0
      have c01 := L.b0.c1
      have c10 := L.tl.b0.c0
      have c11 := L.tl.b0.c1
      have c20 := L.tl.tl.b0.c0
      have c21 := L.tl.tl.b0.c1
      have c30 := L.tl.tl.tl.b0.c0
      have c31 := L.tl.tl.tl.b0.c1
      clear c00 c01 c10 c11 c20 c21 c30 c31
      have c00 := L.b0.c0
      have c01 := L.b0.c1
      have c10 := L.tl.b0.c0
      have c11 := L.tl.b0.c1
      have c20 := L.tl.tl.b0.c0
      have c21 := L.tl.tl.b0.c1
      have c30 := L.tl.tl.tl.b0.c0
      have c31 := L.tl.tl.tl.b0.c1
      go_wp2_with fail
      replace L := L.drew
      go_region_held3 (fun w' => w'.cell? ⟨w.heap.size + 1, 0, none⟩ = some (.bool b2)) (first | (with_reducible exact L.tl.tl.b0.c0) | (have LP := L.swap.put (by omega) (by simp) (ng (sg true q)) A8 (zl (sg true q)) c8; unfold put2 at LP; have kk := LP.tl.tl.b0.c0; simpa using kk) | (have LP := L.swap.put (by omega) (by simp) (ng (sg true q)) A8 (zl (sg true q)) c8; have LQ := LP.swap.put (by omega) (by simp) (ng (sg b2 0)) A9 (zl (sg b2 0)) c9; unfold put2 at LQ; have kk := LQ.tl.tl.b0.c0; simpa using kk)) (first | (go_at_call 40; (with_reducible refine (signed_any true q _ _ (L.getN (by simp)) (by omega)).mono ?_); rintro e w8 ⟨v8, rfl, iz, be⟩; replace L := (L.step be).z iz; obtain ⟨A8, c8, rfl, _⟩ := iz.form; clear be iz) | (go_at_call 40; (with_reducible refine (signed_any b2 0 _ _ (L.getN (by simp)) (by rw [len_zero]; omega)).mono ?_); rintro e w9 ⟨v9, rfl, iz, be⟩; replace L := (L.step be).z iz; obtain ⟨A9, c9, rfl, _⟩ := iz.form; clear be iz; have d0 := L.tl.b0.c0; have d1 := L.tl.b0.c1; have g0 := L.tl.b0.fr 0; have g1 := L.tl.b0.fr 1; have e0 := L.b0.c0; have e1 := L.b0.c1; have h0 := L.b0.fr 0; have h1 := L.b0.fr 1))
      clear c00 c01 c10 c11 c20 c21 c30 c31
      go_wp2_with fail
      have LP := L.swap.put (by omega) (by simp) (ng (sg true q)) A8 (zl (sg true q)) c8
      have LQ := LP.swap.put (by omega) (by simp) (ng (sg b2 0)) A9 (zl (sg b2 0)) c9
      have k0 := LQ.b0.c0
      have k1 := LQ.b0.c1
      have k2 := LQ.tl.b0.c0
      have k3 := LQ.tl.b0.c1
      unfold put2 at k0 k1 k2 k3
      exact bodyPost_ret (v := .tuple #[.agg #[.bool (ng (sg true q)), .slice A8 (zl (sg true q)) c8], .agg #[.bool (ng (sg b2 0)), .slice A9 (zl (sg b2 0)) c9], .bool true]) (by simp [results, Tryd.results33, go_sem, k0, k1, k2, k3]) rfl ⟨_, _, rfl, HQ.out ▸ LQ.getZ (by simp), HR.out ▸ LQ.getZ (by simp), LQ.below⟩
    · have HA := floor_down hy0 hs hz
      have HQ := Lib.hid HA.1.symm
      have HR := Lib.hid HA.2.symm
      clear HA
      obtain ⟨q, hq⟩ : ∃ q, x.natAbs / y.natAbs = q := ⟨_, rfl⟩
      obtain ⟨r, hr⟩ : ∃ r, x.natAbs % y.natAbs = r := ⟨_, rfl⟩
      rw [hq, hr] at HD
      rw [hq] at HQ hlq hl1
      rw [hr] at HR hlr hmr hls hz
      clear hq hr
      have HB2 := fun v W h1 h2 => sub_any y.natAbs r (.slice B (zl y) d) v W h1 h2 (by omega)
      unfold RetSub at HB2
      simp only [if_pos (Nat.le_of_lt hmr), decide_eq_true (Nat.le_of_lt hmr)] at HB2
      have HB3 := Lib.hid HB2
      clear HB2
      have hzr := len_pos hz
      obtain ⟨qf, hqf⟩ : ∃ qf, x.fdiv y = qf := ⟨_, rfl⟩
      obtain ⟨rf, hrf⟩ : ∃ rf, x.fmod y = rf := ⟨_, rfl⟩
      rw [hqf] at HQ ⊢
      rw [hrf] at HR ⊢
      clear hqf hrf
      clear hs hy0
      generalize ng x = b at *
      generalize ng y = b2 at *
      go_enter Tryd.func33, Tryd.ntmps33
      go_wp2_with fail
      have L := ((((L0.box (w.heap.size) (by simp) b A (zl x) c).box (w.heap.size + 1) (by simp) b2 B (zl y) d).box (w.heap.size + 2) (by simp) false none 0 0).box (w.heap.size + 3) (by simp) false none 0 0)
      have c00 := L.b0.c0
      have c01 := L.b0.c1
      have c10 := L.tl.b0.c0
      have c11 := L.tl.b0.c1
      have c20 := L.tl.tl.b0.c0
      have c21 := L.tl.tl.b0.c1
      have c30 := L.tl.tl.tl.b0.c0
      have c31 := L.tl.tl.tl.b0.c1
      refine (HD.out _ (L.getN (by simp)) (L.getN (by simp))).mono ?_
      rintro e w1 ⟨vq, vr, rfl, oq, or, be⟩
      clear c00 c01 c10 c11 c20 c21 c30 c31
      replace L := ((L.step be).n (isN_of_own (x := q) oq rfl)).n (isN_of_own (x := r) or rfl)
      clear oq or be HD
      obtain ⟨A1, c1, rfl⟩ := L.hn.form
      have c00 := L.b0.c0
      have c01 := L.b0.c1
      have c10 := L.tl.b0.c0
      have c11 := L.tl.b0.c1
      have c20 := L.tl.tl.b0.c0
      have c21 := L.tl.tl.b0.c1
      have c30 := L.tl.tl.tl.b0.c0
      have c31 := L.tl.tl.tl.b0.c1
      go_wp2_with fail
      refine (of_any 1 _ (by omega)).mono ?_
      rintro e w2 ⟨v5, rfl, o⟩
      clear c00 c01 c10 c11 c20 c21 c30 c31
      replace L := (L.step o.below).n o.isN
      clear o
      have c00 := L.b0.c0
      have c01 := L.b0.c1
      have c10 := L.tl.b0.c0
      have c11 := L.tl.b0.c1
      have c20 := L.tl.tl.b0.c0
      have c21 := L.tl.tl.b0.c1
      have c30 := L.tl.tl.tl.b0.c0
      have c31 := L.tl.tl.tl.b0.c1
      go_wp2_with fail
      refine (add_any q 1 _ _ _ (L.getN (by simp)) (L.getN (by simp)) (by omega) (by omega)).mono ?_
      rintro e w3 ⟨v6, rfl, o⟩
      clear c00 c01 c10 c11 c20 c21 c30 c31
      replace L := (L.step o.below).n o.isN
      clear o
      have c00 := L.b0.c0
      have c01 := L.b0.c1
      have c10 := L.tl.b0.c0
      have c11 := L.tl.b0.c1
      have c20 := L.tl.tl.b0.c0
      have c21 := L.tl.tl.b0.c1
      have c30 := L.tl.tl.tl.b0.c0
      have c31 := L.tl.tl.tl.b0.c1
      go_wp2_with fail
      refine (HB3.out _ _ (L.getN (by simp)) (L.getN (by simp))).mono ?_
      rintro e w4 ⟨v7, rfl, o⟩
      clear c00 c01 c10 c11 c20 c21 c30 c31
      replace L := (L.step o.below).n o.isN
      clear o
      have c00 := L.b0.c0
      have c01 := L.b0.c1
      have c10 := L.tl.b0.c0
      have c11 := L.tl.b0.c1
      have c20 := L.tl.tl.b0.c0
      have c21 := L.tl.tl.b0.c1
      have c30 := L.tl.tl.tl.b0.c0
      have c31 := L.tl.tl.tl.b0.c1
      go_wp2_with fail
      replace L := L.drew
      go_region_held3 (fun w' => w'.cell? ⟨w.heap.size + 1, 0, none⟩ = some (.bool b2)) (first | (with_reducible exact L.tl.tl.b0.c0) | (have LP := L.swap.put (by omega) (by simp) (ng (sg true (q + 1))) A8 (zl (sg true (q + 1))) c8; unfold put2 at LP; have kk := LP.tl.tl.b0.c0; simpa using kk) | (have LP := L.swap.put (by omega) (by simp) (ng (sg true (q + 1))) A8 (zl (sg true (q + 1))) c8; have LQ := LP.swap.put (by omega) (by simp) (ng (sg b2 (y.natAbs - r))) A9 (zl (sg b2 (y.natAbs - r))) c9; unfold put2 at LQ; have kk := LQ.tl.tl.b0.c0; simpa using kk)) (first | (go_at_call 40; (with_reducible refine (signed_any true (q + 1) _ _ (L.getN (by simp)) (by omega)).mono ?_); rintro e w8 ⟨v8, rfl, iz, be⟩; replace L := (L.step be).z iz; obtain ⟨A8, c8, rfl, _⟩ := iz.form; clear be iz) | (go_at_call 40; (with_reducible refine (signed_any b2 (y.natAbs - r) _ _ (L.getN (by simp)) (by omega)).mono ?_); rintro e w9 ⟨v9, rfl, iz, be⟩; replace L := (L.step be).z iz; obtain ⟨A9, c9, rfl, _⟩ := iz.form; clear be iz; have d0 := L.tl.b0.c0; have d1 := L.tl.b0.c1; have g0 := L.tl.b0.fr 0; have g1 := L.tl.b0.fr 1; have e0 := L.b0.c0; have e1 := L.b0.c1; have h0 := L.b0.fr 0; have h1 := L.b0.fr 1))
      clear c00 c01 c10 c11 c20 c21 c30 c31
      go_wp2_with fail
      have LP := L.swap.put (by omega) (by simp) (ng (sg true (q + 1))) A8 (zl (sg true (q + 1))) c8
      have LQ := LP.swap.put (by omega) (by simp) (ng (sg b2 (y.natAbs - r))) A9 (zl (sg b2 (y.natAbs - r))) c9
      have k0 := LQ.b0.c0
      have k1 := LQ.b0.c1
      have k2 := LQ.tl.b0.c0
      have k3 := LQ.tl.b0.c1
      unfold put2 at k0 k1 k2 k3
      exact bodyPost_ret (v := .tuple #[.agg #[.bool (ng (sg true (q + 1))), .slice A8 (zl (sg true (q + 1))) c8], .agg #[.bool (ng (sg b2 (y.natAbs - r))), .slice A9 (zl (sg b2 (y.natAbs - r))) c9], .bool true]) (by simp [results, Tryd.results33, go_sem, k0, k1, k2, k3]) rfl ⟨_, _, rfl, HQ.out ▸ LQ.getZ (by simp), HR.out ▸ LQ.getZ (by simp), LQ.below⟩

end Go.Proofs.YtajegednakenbaaDoor
