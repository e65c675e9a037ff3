/- The reference's Same, one, Rat, Of, From. -/
import Derived.Test.YtpgiolbnmlbjbaaGreatDoorRefDyA
import Derived.Test.YtpgiolbnmlbjbaaGreatDoorRefDyC
import Derived.Test.YtpgiolbnmlbjbaaGreatDoorBaseI
import Derived.Deep.RegionHeld3
import Derived.Deep.DrawnRows
namespace Go.Proofs.YtpgiolbnmlbjbaaGreatDoor
open Go.RowKit
set_option linter.unusedVariables false
set_option linter.unusedSimpArgs false
set_option maxRecDepth 100000
attribute [local go_sem ↓] Go.wp_at_zero Go.wp_at_succ

theorem z_parts (x y : Int) : decide (x = y) = ((ng x == ng y) && sameB x.natAbs y.natAbs) := by
  unfold ng sameB
  by_cases h : x = y
  · subst h; simp
  · rw [decide_eq_false h]
    symm
    rw [Bool.and_eq_false_iff]
    by_cases h2 : x.natAbs = y.natAbs
    · left
      by_cases h3 : x < 0
      · rw [decide_eq_true h3, decide_eq_false (by omega)]; rfl
      · rw [decide_eq_false h3, decide_eq_true (by omega)]; rfl
    · right; exact decide_eq_false h2

set_option maxHeartbeats 2000000 in
theorem zsame_any (x y : Int) (vx vy : Value) (w : World) (hx : IsZ w vx x) (hy : IsZ w vy y) :
    Calls Tryz.prog 51 #[vx, vy] w (RetB w (decide (x = y))) := by
  obtain ⟨A, c, rfl, ix⟩ := hx.form
  obtain ⟨B, d, rfl, iy⟩ := hy.form
  have L0 := ((Lq.mk0 w).n iy).n ix
  clear hx hy ix iy
  rw [z_parts x y]
  have HS := Lib.hid (fun v u W h1 h2 => same_any x.natAbs y.natAbs v u W h1 h2)
  generalize sameB x.natAbs y.natAbs = r at *
  generalize ng x = b1 at *
  generalize ng y = b2 at *
  cases b1 <;> cases b2
  · skip
    go_enter Tryz.func51, Tryz.ntmps51
    go_wp2_with fail
    have L := ((L0.varZ (w.heap.size) (by simp) false A (zl x) c).varZ (w.heap.size + 1) (by simp) false B (zl y) d)
    have c00 := L.b0.c20
    have f00 := L.b0.fr 0
    have c01 := L.b0.c21
    have f01 := L.b0.fr 1
    have c10 := L.tl.b0.c20
    have f10 := L.tl.b0.fr 0
    have c11 := L.tl.b0.c21
    have f11 := L.tl.b0.fr 1
    refine (HS.out _ _ _ (L.getN (by simp)) (L.getN (by simp))).mono ?_
    rintro e w' ⟨rfl, rfl⟩
    go_wp2_with fail
    go_ret
    exact ⟨by simp, L.below⟩
  · skip
    go_enter Tryz.func51, Tryz.ntmps51
    go_wp2_with fail
    have L := ((L0.varZ (w.heap.size) (by simp) false A (zl x) c).varZ (w.heap.size + 1) (by simp) true B (zl y) d)
    have c00 := L.b0.c20
    have f00 := L.b0.fr 0
    have c01 := L.b0.c21
    have f01 := L.b0.fr 1
    have c10 := L.tl.b0.c20
    have f10 := L.tl.b0.fr 0
    have c11 := L.tl.b0.c21
    have f11 := L.tl.b0.fr 1
    (try go_wp2_with fail)
    go_ret
    exact ⟨by simp, L.below⟩
  · skip
    go_enter Tryz.func51, Tryz.ntmps51
    go_wp2_with fail
    have L := ((L0.varZ (w.heap.size) (by simp) true A (zl x) c).varZ (w.heap.size + 1) (by simp) false B (zl y) d)
    have c00 := L.b0.c20
    have f00 := L.b0.fr 0
    have c01 := L.b0.c21
    have f01 := L.b0.fr 1
    have c10 := L.tl.b0.c20
    have f10 := L.tl.b0.fr 0
    have c11 := L.tl.b0.c21
    have f11 := L.tl.b0.fr 1
    (try go_wp2_with fail)
    go_ret
    exact ⟨by simp, L.below⟩
  · skip
    go_enter Tryz.func51, Tryz.ntmps51
    go_wp2_with fail
    have L := ((L0.varZ (w.heap.size) (by simp) true A (zl x) c).varZ (w.heap.size + 1) (by simp) true B (zl y) d)
    have c00 := L.b0.c20
    have f00 := L.b0.fr 0
    have c01 := L.b0.c21
    have f01 := L.b0.fr 1
    have c10 := L.tl.b0.c20
    have f10 := L.tl.b0.fr 0
    have c11 := L.tl.b0.c21
    have f11 := L.tl.b0.fr 1
    refine (HS.out _ _ _ (L.getN (by simp)) (L.getN (by simp))).mono ?_
    rintro e w' ⟨rfl, rfl⟩
    go_wp2_with fail
    go_ret
    exact ⟨by simp, L.below⟩
set_option maxHeartbeats 2000000 in
theorem same8_any (m e n k : Int) (vx vy : Value) (w : World) (hx : IsD w vx m e) (hy : IsD w vy n k) :
    Calls Tryz.prog 16 #[vx, vy] w (RetB w (decide (e = k) && decide (m = n))) := by
  obtain ⟨A, c, rfl, hz, hn⟩ := hx.form
  obtain ⟨B, d, rfl, hz2, hn2⟩ := hy.form
  have L0 := ((Lq.mk0 w).z hz2).z hz
  clear hx hy hz hn hz2 hn2
  have HS := Lib.hid (fun v u W h1 h2 => zsame_any m n v u W h1 h2)
  generalize decide (m = n) = r at *
  by_cases he : e = k
  · subst he
    rw [decide_eq_true rfl, Bool.true_and]
    go_enter Tryz.func16, Tryz.ntmps16
    go_wp2_with fail
    have L := ((L0.varD (w.heap.size) (by simp) (ng m) A (zl m) c e).varD (w.heap.size + 1) (by simp) (ng n) B (zl n) d e)
    have c00 := L.b0.c30
    have f00 := L.b0.fr 0
    have c01 := L.b0.c31
    have f01 := L.b0.fr 1
    have c02 := L.b0.c32
    have f02 := L.b0.fr 2
    have c10 := L.tl.b0.c30
    have f10 := L.tl.b0.fr 0
    have c11 := L.tl.b0.c31
    have f11 := L.tl.b0.fr 1
    have c12 := L.tl.b0.c32
    have f12 := L.tl.b0.fr 2
    (try go_wp2_with fail)
    refine (HS.out _ _ _ (L.getZ (by simp)) (L.getZ (by simp))).mono ?_
    rintro e w1 ⟨rfl, be⟩
    clear c00 f00 c01 f01 c02 f02 c10 f10 c11 f11 c12 f12
    replace L := L.step be
    clear be
    go_wp2_with fail
    go_ret
    exact ⟨rfl, L.below⟩
  · rw [decide_eq_false he, Bool.false_and]
    have hee : (e == k) = false := by simpa using he
    go_enter Tryz.func16, Tryz.ntmps16
    go_wp2_with fail
    have L := ((L0.varD (w.heap.size) (by simp) (ng m) A (zl m) c e).varD (w.heap.size + 1) (by simp) (ng n) B (zl n) d k)
    have c00 := L.b0.c30
    have f00 := L.b0.fr 0
    have c01 := L.b0.c31
    have f01 := L.b0.fr 1
    have c02 := L.b0.c32
    have f02 := L.b0.fr 2
    have c10 := L.tl.b0.c30
    have f10 := L.tl.b0.fr 0
    have c11 := L.tl.b0.c31
    have f11 := L.tl.b0.fr 1
    have c12 := L.tl.b0.c32
    have f12 := L.tl.b0.fr 2
    (try go_wp2_with fail)
    go_ret
    exact ⟨rfl, L.below⟩
set_option maxHeartbeats 1000000 in
theorem rone_any (n : Nat) (w : World) (hn : n ≤ 1000000) :
    Calls Tryz.prog 71 #[.int .i64 (n : Int)] w (RetN w (2 ^ n)) := by
  have HO := Lib.hid (fun W => rof_any 1 W (by omega))
  have h1 := fun v W h => rshlK_any 1 n v W h (Nat.le_trans (len_le1 (by omega)) (by omega)) (by omega)
  rw [Nat.one_mul] at h1
  have HS := Lib.hid h1
  clear h1
  generalize 2 ^ n = p at *
  go_enter Tryz.func71, Tryz.ntmps71
  go_wp2_with fail
  refine (HO.out _).mono ?_
  rintro e9 w1 ⟨v1, rfl, o1⟩
  have L := (((Lq.mk0 w).step o1.below).n o1.isN)
  clear o1
  go_wp2_with fail
  refine (HS.out _ _ L.hn).mono ?_
  rintro e9 w2 ⟨v2, rfl, o2⟩
  go_wp2_with fail
  go_ret
  exact ⟨_, rfl, ⟨o2.own.base_le L.below.size, L.below.trans (o2.below.mono L.below.size)⟩⟩
set_option maxHeartbeats 4000000 in
theorem rrat8_any (m e : Int) (vx : Value) (w : World) (hx : IsD w vx m e) (lm : zl m ≤ 100000) (he : -200000 ≤ e ∧ e ≤ 200000) :
    Calls Tryz.prog 25 #[vx] w (RetP w (m * 2 ^ e.toNat) (2 ^ (-e).toNat)) := by
  obtain ⟨A, c, rfl, hz, hn⟩ := hx.form
  have L0 := ((Lq.mk0 w).z hz).n hn
  clear hx
  by_cases h0 : 0 ≤ e
  · have b0 : decide (0 ≤ e) = true := decide_eq_true h0
    obtain ⟨p, hp⟩ : ∃ p : Nat, e = (p : Int) := ⟨e.toNat, by omega⟩
    subst hp
    rw [show ((p : Int)).toNat = p from Int.toNat_natCast p, show (-(p : Int)).toNat = 0 from by omega, Nat.pow_zero]
    have H1 := Lib.hid (fun v W h => rzshl_any m v W h (by omega) p (by omega))
    have HO := Lib.hid (fun W => rof_any 1 W (by omega))
    clear hz hn he lm
    generalize m * 2 ^ p = a at *
    go_enter Tryz.func25, Tryz.ntmps25
    go_wp2_with fail
    have L := ((L0.varD (w.heap.size) (by simp) (ng m) A (zl m) c (p : Int)).varQ (w.heap.size + 1) (by simp) false none none 0 0 0 0)
    have c00 := L.b0.c30
    have f00 := L.b0.fr 0
    have c01 := L.b0.c31
    have f01 := L.b0.fr 1
    have c02 := L.b0.c32
    have f02 := L.b0.fr 2
    have c10 := L.tl.b0.c30
    have f10 := L.tl.b0.fr 0
    have c11 := L.tl.b0.c31
    have f11 := L.tl.b0.fr 1
    have c12 := L.tl.b0.c32
    have f12 := L.tl.b0.fr 2
    (try go_wp2_with fail)
    refine (H1.out _ _ (L.getZ (by simp))).mono ?_
    rintro e w1 ⟨v1, rfl, iz, be⟩
    clear c00 f00 c01 f01 c02 f02 c10 f10 c11 f11 c12 f12
    replace L := (L.step be).z iz
    obtain ⟨A9, c9, rfl, _⟩ := iz.form
    clear be iz
    have c00 := L.b0.c30
    have f00 := L.b0.fr 0
    have c01 := L.b0.c31
    have f01 := L.b0.fr 1
    have c02 := L.b0.c32
    have f02 := L.b0.fr 2
    have c10 := L.tl.b0.c30
    have f10 := L.tl.b0.fr 0
    have c11 := L.tl.b0.c31
    have f11 := L.tl.b0.fr 1
    have c12 := L.tl.b0.c32
    have f12 := L.tl.b0.fr 2
    (try go_wp2_with fail)
    refine (HO.out _).mono ?_
    rintro e w2 ⟨v2, rfl, o⟩
    clear c00 f00 c01 f01 c02 f02 c10 f10 c11 f11 c12 f12
    replace L := (L.step o.below).n o.isN
    obtain ⟨B9, d9, rfl⟩ := o.isN.form
    clear o
    have c00 := L.b0.c30
    have f00 := L.b0.fr 0
    have c01 := L.b0.c31
    have f01 := L.b0.fr 1
    have c02 := L.b0.c32
    have f02 := L.b0.fr 2
    have c10 := L.tl.b0.c30
    have f10 := L.tl.b0.fr 0
    have c11 := L.tl.b0.c31
    have f11 := L.tl.b0.fr 1
    have c12 := L.tl.b0.c32
    have f12 := L.tl.b0.fr 2
    (try go_wp2_with fail)
    have LP := L.putQ (by omega) (by first | (simp; done) | (simp; omega)) (ng (a)) A9 B9 (zl (a)) c9 (len (1)) d9
    have k0 := LP.b0.c30
    have k1 := LP.b0.c31
    have k2 := LP.b0.c32
    unfold put3 at k0 k1 k2
    exact bodyPost_ret (v := .agg #[.bool (ng (a)), .slice A9 (zl (a)) c9, .slice B9 (len (1)) d9]) (by simp [results, Tryz.results25, go_sem, k0, k1, k2]) rfl ⟨_, rfl, isP_of (LP.getZ (by simp)) LP.hn, LP.below⟩
  · have b0 : decide (0 ≤ e) = false := decide_eq_false h0
    obtain ⟨p, hp⟩ : ∃ p : Nat, (p : Int) = -e := ⟨(-e).toNat, by omega⟩
    rw [show e.toNat = 0 from by omega, show (-e).toNat = p from by omega, Int.pow_zero, Int.mul_one]
    have hw : IntKind.i64.wrap (-e) = (p : Int) := by rw [hp, IntKind.wrap_i64]; omega
    have H1 := Lib.hid (fun W => rone_any p W (by omega))
    clear hz hn he lm h0 hp
    generalize 2 ^ p = q at *
    go_enter Tryz.func25, Tryz.ntmps25
    go_wp2_with fail
    have L := ((L0.varD (w.heap.size) (by simp) (ng m) A (zl m) c e).varQ (w.heap.size + 1) (by simp) false none none 0 0 0 0)
    have c00 := L.b0.c30
    have f00 := L.b0.fr 0
    have c01 := L.b0.c31
    have f01 := L.b0.fr 1
    have c02 := L.b0.c32
    have f02 := L.b0.fr 2
    have c10 := L.tl.b0.c30
    have f10 := L.tl.b0.fr 0
    have c11 := L.tl.b0.c31
    have f11 := L.tl.b0.fr 1
    have c12 := L.tl.b0.c32
    have f12 := L.tl.b0.fr 2
    (try go_wp2_with fail)
    clear c00 f00 c01 f01 c02 f02 c10 f10 c11 f11 c12 f12
    replace L := L.drew
    have c00 := L.b0.c30
    have f00 := L.b0.fr 0
    have c01 := L.b0.c31
    have f01 := L.b0.fr 1
    have c02 := L.b0.c32
    have f02 := L.b0.fr 2
    have c10 := L.tl.b0.c30
    have c11 := L.tl.b0.c31
    have c12 := L.tl.b0.c32
    go_region_held3 (fun w' => w'.cell? ⟨w.heap.size, 0, none⟩ = some (.bool (ng m)) ∧ w'.cell? ⟨w.heap.size, 1, none⟩ = some (.slice A (zl m) c) ∧ w'.cell? ⟨w.heap.size, 2, none⟩ = some (.int .i64 e)) (first | (with_reducible exact ⟨L.tl.b0.c30, L.tl.b0.c31, L.tl.b0.c32⟩) | exact ⟨L.tl.b0.c30, L.tl.b0.c31, L.tl.b0.c32⟩ | (have LP := L.putQ (by omega) (by first | (simp; done) | (simp; omega)) (ng m) A B9 (zl m) c (len q) d9; exact ⟨LP.tl.b0.c30, LP.tl.b0.c31, LP.tl.b0.c32⟩)) (first | (go_at_call 71; (with_reducible refine (H1.out _ ).mono ?_); rintro e wh ⟨vh, rfl, o9⟩; replace L := (L.step o9.below).n o9.isN; obtain ⟨B9, d9, rfl⟩ := o9.isN.form; clear o9; (try (have x00 := L.b0.c30; have x01 := L.b0.c31; have x02 := L.b0.c32; have y00 := L.b0.fr 0; have y01 := L.b0.fr 1; have y02 := L.b0.fr 2))))
    clear c00 f00 c01 f01 c02 f02 c10 c11 c12
    go_wp2_with fail
    have LP := L.putQ (by omega) (by first | (simp; done) | (simp; omega)) (ng (m)) A B9 (zl (m)) c (len (q)) d9
    have k0 := LP.b0.c30
    have k1 := LP.b0.c31
    have k2 := LP.b0.c32
    unfold put3 at k0 k1 k2
    exact bodyPost_ret (v := .agg #[.bool (ng (m)), .slice A (zl (m)) c, .slice B9 (len (q)) d9]) (by simp [results, Tryz.results25, go_sem, k0, k1, k2]) rfl ⟨_, rfl, isP_of (LP.getZ (by simp)) LP.hn, LP.below⟩
set_option maxHeartbeats 2000000 in
theorem rof8_any (n : Int) (w : World) (h1 : -9223372036854775808 ≤ n) (h2 : n ≤ 9223372036854775807) :
    Calls Tryz.prog 20 #[.int .i64 n] w (RetD8 w (mkM n 0) (mkE n 0)) := by
  have HO := Lib.hid (fun W => rzof_any n W h1 h2)
  have hl : zl n ≤ 1000000 := Nat.le_trans (len_le2 (x := n.natAbs) (by omega)) (by omega)
  have hm := fun v W h => rmake8_any n 0 v W h hl
  generalize mkM n 0 = M at *
  generalize mkE n 0 = E at *
  generalize mkR n 0 = R at *
  have HM := Lib.hid hm
  clear hm h1 h2 hl
  go_enter Tryz.func20, Tryz.ntmps20
  go_wp2_with fail
  have L := ((Lq.mk0 w).varD (w.heap.size) (by simp) false none 0 0 0)
  have c00 := L.b0.c30
  have f00 := L.b0.fr 0
  have c01 := L.b0.c31
  have f01 := L.b0.fr 1
  have c02 := L.b0.c32
  have f02 := L.b0.fr 2
  (try go_wp2_with fail)
  refine (HO.out _).mono ?_
  rintro e w1 ⟨v1, rfl, iz, be⟩
  clear c00 f00 c01 f01 c02 f02
  replace L := (L.step be).z iz
  clear be iz
  have c00 := L.b0.c30
  have f00 := L.b0.fr 0
  have c01 := L.b0.c31
  have f01 := L.b0.fr 1
  have c02 := L.b0.c32
  have f02 := L.b0.fr 2
  (try go_wp2_with fail)
  refine (HM.out _ _ (L.getZ (by simp))).mono ?_
  rintro e w2 ⟨v2, rfl, id, be⟩
  clear c00 f00 c01 f01 c02 f02
  obtain ⟨A9, c9, rfl, _, in9⟩ := id.form
  replace L := (L.step be).n in9
  clear be in9 id
  have c00 := L.b0.c30
  have f00 := L.b0.fr 0
  have c01 := L.b0.c31
  have f01 := L.b0.fr 1
  have c02 := L.b0.c32
  have f02 := L.b0.fr 2
  have hlt := L.b0.lt
  have LP0 := L.putD (by omega) (by first | (simp; done) | (simp; omega)) (ng M) A9 (zl M) c9 E
  have LP := LP0.varD _ rfl (ng M) A9 (zl M) c9 E
  have k0 := LP.tl.b0.c30
  have k1 := LP.tl.b0.c31
  have k2 := LP.tl.b0.c32
  unfold put3 at k0 k1 k2
  replace L := L.varD w2.heap.size rfl (ng M) A9 (zl M) c9 E
  have y0 := L.b0.c30
  have y1 := L.b0.c31
  have y2 := L.b0.c32
  go_wp2_with fail
  exact bodyPost_ret (v := .agg #[.bool (ng M), .slice A9 (zl M) c9, .int .i64 E]) (by simp [results, Tryz.results20, go_sem, k0, k1, k2]) rfl ⟨_, rfl, isD_n LP.hn, LP.below⟩
/-- Whether a fraction's denominator is a power of two that is small enough; what From returns. -/
def frP (d : Nat) : Bool := decide (tz d = blen d - 1) && decide (blen d - 1 ≤ 131072)
def frB (a : Int) (d : Nat) : Bool := frP d && decide (mkR a (-((blen d - 1 : Nat) : Int)) = 0)
def frM (a : Int) (d : Nat) : Int := if frP d then mkM a (-((blen d - 1 : Nat) : Int)) else 0
def frE (a : Int) (d : Nat) : Int := if frP d then mkE a (-((blen d - 1 : Nat) : Int)) else 0
theorem err_ok (R : Int) : (R == 0) = decide (R = 0) := by
  by_cases h : R = 0
  · subst h; rfl
  · rw [decide_eq_false h]; simpa using h
set_option maxHeartbeats 4000000 in
theorem rfrom8_any (a : Int) (d : Nat) (vx : Value) (w : World) (hx : IsP w vx a d) (la : zl a ≤ 1000000) (ld : len d ≤ 1000000) (hd : 0 < d) :
    Calls Tryz.prog 45 #[vx] w (RetDB w (frM a d) (frE a d) (frB a d)) := by
  obtain ⟨A, c, B, g, rfl, hz, _, hn⟩ := hx.form
  have L0 := ((Lq.mk0 w).z hz).n hn
  have HB := Lib.hid (fun v W h => rbits_any d v W h (by omega))
  have HZ := Lib.hid (fun v W h => rzeros_any d v W h (by omega))
  have hpb := blen_pos hd
  have hbl := blen_le_len d
  obtain ⟨n, hn1⟩ : ∃ n, blen d = n + 1 := ⟨blen d - 1, by omega⟩
  obtain ⟨z, hz1⟩ : ∃ z, tz d = z := ⟨_, rfl⟩
  unfold frM frE frB frP
  rw [hn1, hz1]
  rw [show n + 1 - 1 = n from rfl]
  clear hx hz hn
  rw [hz1] at HZ
  obtain ⟨bl, hb⟩ : ∃ bl, blen d = bl := ⟨_, rfl⟩
  rw [hb] at HB hn1 hpb hbl
  have hw0 : (bl : Int) - 1 = (n : Int) := by omega
  have hw : IntKind.i64.wrap ((bl : Int) - 1) = (n : Int) := by rw [IntKind.wrap_i64]; omega
  clear hb hz1 hn1
  by_cases q1 : z = n
  · subst q1
    rw [decide_eq_true rfl, Bool.true_and]
    have b1 : (((z : Nat) : Int) != (z : Int)) = false := by simp
    by_cases q2 : z ≤ 131072
    · have b2 : decide ((131072 : Int) < (z : Int)) = false := decide_eq_false (by omega)
      rw [decide_eq_true q2, Bool.true_and, if_pos rfl, if_pos rfl, ← err_ok]
      have hw2 : IntKind.i64.wrap (-(z : Int)) = -(z : Int) := by rw [IntKind.wrap_i64]; omega
      have hm := fun v W h => rmake8_any a (-(z : Int)) v W h la
      generalize mkM a (-(z : Int)) = M at *
      generalize mkE a (-(z : Int)) = E at *
      generalize mkR a (-(z : Int)) = R at *
      have HM := Lib.hid hm
      clear hm
      go_enter Tryz.func45, Tryz.ntmps45
      go_wp2_with fail
      have L := ((L0.varQ (w.heap.size) (by simp) (ng a) A B (zl a) c (len d) g).varD (w.heap.size + 1) (by simp) false none 0 0 0)
      have c00 := L.b0.c30
      have f00 := L.b0.fr 0
      have c01 := L.b0.c31
      have f01 := L.b0.fr 1
      have c02 := L.b0.c32
      have f02 := L.b0.fr 2
      have c10 := L.tl.b0.c30
      have f10 := L.tl.b0.fr 0
      have c11 := L.tl.b0.c31
      have f11 := L.tl.b0.fr 1
      have c12 := L.tl.b0.c32
      have f12 := L.tl.b0.fr 2
      (try go_wp2_with fail)
      refine (HB.out _ _ (L.getN (by simp))).mono ?_
      rintro e9 w' ⟨rfl, rfl⟩
      go_wp2_with fail
      refine (HZ.out _ _ (L.getN (by simp))).mono ?_
      rintro e9 w' ⟨rfl, rfl⟩
      (try go_wp2_with fail)
      refine (HM.out _ _ (L.getZ (by simp))).mono ?_
      rintro e w1 ⟨v2, rfl, id, be⟩
      clear c00 f00 c01 f01 c02 f02 c10 f10 c11 f11 c12 f12
      obtain ⟨A9, c9, rfl, _, in9⟩ := id.form
      replace L := (L.step be).n in9
      clear be in9 id
      have c00 := L.b0.c30
      have f00 := L.b0.fr 0
      have c01 := L.b0.c31
      have f01 := L.b0.fr 1
      have c02 := L.b0.c32
      have f02 := L.b0.fr 2
      have c10 := L.tl.b0.c30
      have c11 := L.tl.b0.c31
      have c12 := L.tl.b0.c32
      have hlt := L.b0.lt
      have LP0 := L.putD (by omega) (by first | (simp; done) | (simp; omega)) (ng M) A9 (zl M) c9 E
      have LP := LP0.varD _ rfl (ng M) A9 (zl M) c9 E
      have k0 := LP.tl.b0.c30
      have k1 := LP.tl.b0.c31
      have k2 := LP.tl.b0.c32
      unfold put3 at k0 k1 k2
      replace L := L.varD w1.heap.size rfl (ng M) A9 (zl M) c9 E
      have y0 := L.b0.c30
      have y1 := L.b0.c31
      have y2 := L.b0.c32
      go_wp2_with fail
      exact bodyPost_ret (v := .tuple #[.agg #[.bool (ng M), .slice A9 (zl M) c9, .int .i64 E], .bool (R == 0)]) (by simp [results, Tryz.results45, go_sem, k0, k1, k2]) rfl ⟨_, rfl, isD_n LP.hn, LP.below⟩
    · have b2 : decide ((131072 : Int) < (z : Int)) = true := decide_eq_true (by omega)
      rw [decide_eq_false q2, Bool.false_and]
      simp only [Bool.false_eq_true, if_false]
      go_enter Tryz.func45, Tryz.ntmps45
      go_wp2_with fail
      have L := ((L0.varQ (w.heap.size) (by simp) (ng a) A B (zl a) c (len d) g).varD (w.heap.size + 1) (by simp) false none 0 0 0)
      have c00 := L.b0.c30
      have f00 := L.b0.fr 0
      have c01 := L.b0.c31
      have f01 := L.b0.fr 1
      have c02 := L.b0.c32
      have f02 := L.b0.fr 2
      have c10 := L.tl.b0.c30
      have f10 := L.tl.b0.fr 0
      have c11 := L.tl.b0.c31
      have f11 := L.tl.b0.fr 1
      have c12 := L.tl.b0.c32
      have f12 := L.tl.b0.fr 2
      (try go_wp2_with fail)
      refine (HB.out _ _ (L.getN (by simp))).mono ?_
      rintro e9 w' ⟨rfl, rfl⟩
      go_wp2_with fail
      refine (HZ.out _ _ (L.getN (by simp))).mono ?_
      rintro e9 w' ⟨rfl, rfl⟩
      (try go_wp2_with fail)
      clear c00 f00 c01 f01 c02 f02 c10 f10 c11 f11 c12 f12
      have c00 := L.b0.c30
      have f00 := L.b0.fr 0
      have c01 := L.b0.c31
      have f01 := L.b0.fr 1
      have c02 := L.b0.c32
      have f02 := L.b0.fr 2
      have c10 := L.tl.b0.c30
      have f10 := L.tl.b0.fr 0
      have c11 := L.tl.b0.c31
      have f11 := L.tl.b0.fr 1
      have c12 := L.tl.b0.c32
      have f12 := L.tl.b0.fr 2
      (try go_wp2_with fail)
      exact bodyPost_ret (v := .tuple #[.agg #[.bool false, .slice none 0 0, .int .i64 0], .bool false]) (by simp [results, Tryz.results45, go_sem, c00, c01, c02]) rfl ⟨_, rfl, isD_zero _, L.below⟩
  · have b1 : (((z : Nat) : Int) != (n : Int)) = true := by simp; omega
    rw [decide_eq_false q1, Bool.false_and, Bool.false_and]
    simp only [Bool.false_eq_true, if_false]
    go_enter Tryz.func45, Tryz.ntmps45
    go_wp2_with fail
    have L := ((L0.varQ (w.heap.size) (by simp) (ng a) A B (zl a) c (len d) g).varD (w.heap.size + 1) (by simp) false none 0 0 0)
    have c00 := L.b0.c30
    have f00 := L.b0.fr 0
    have c01 := L.b0.c31
    have f01 := L.b0.fr 1
    have c02 := L.b0.c32
    have f02 := L.b0.fr 2
    have c10 := L.tl.b0.c30
    have f10 := L.tl.b0.fr 0
    have c11 := L.tl.b0.c31
    have f11 := L.tl.b0.fr 1
    have c12 := L.tl.b0.c32
    have f12 := L.tl.b0.fr 2
    (try go_wp2_with fail)
    refine (HB.out _ _ (L.getN (by simp))).mono ?_
    rintro e9 w' ⟨rfl, rfl⟩
    go_wp2_with fail
    refine (HZ.out _ _ (L.getN (by simp))).mono ?_
    rintro e9 w' ⟨rfl, rfl⟩
    (try go_wp2_with fail)
    clear c00 f00 c01 f01 c02 f02 c10 f10 c11 f11 c12 f12
    have c00 := L.b0.c30
    have f00 := L.b0.fr 0
    have c01 := L.b0.c31
    have f01 := L.b0.fr 1
    have c02 := L.b0.c32
    have f02 := L.b0.fr 2
    have c10 := L.tl.b0.c30
    have f10 := L.tl.b0.fr 0
    have c11 := L.tl.b0.c31
    have f11 := L.tl.b0.fr 1
    have c12 := L.tl.b0.c32
    have f12 := L.tl.b0.fr 2
    (try go_wp2_with fail)
    exact bodyPost_ret (v := .tuple #[.agg #[.bool false, .slice none 0 0, .int .i64 0], .bool false]) (by simp [results, Tryz.results45, go_sem, c00, c01, c02]) rfl ⟨_, rfl, isD_zero _, L.below⟩

end Go.Proofs.YtpgiolbnmlbjbaaGreatDoor
