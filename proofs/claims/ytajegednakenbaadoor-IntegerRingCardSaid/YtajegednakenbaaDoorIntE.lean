/- Walks: integer.Cmp, Shl, Shr. -/
import Derived.Test.YtajegednakenbaaDoorIntD
import Derived.Test.YtajegednakenbaaDoorNatG
import Derived.Deep.RegionHeld3
import Derived.Deep.DrawnRows
namespace Go.Proofs.YtajegednakenbaaDoor
open Go.RowKit
set_option linter.unusedVariables false
set_option linter.unusedSimpArgs false
attribute [local go_sem ↓] Go.wp_at_zero Go.wp_at_succ

set_option maxHeartbeats 2000000 in
theorem zcmp_any (x y : Int) (vx vy : Value) (w : World) (hx : IsZ w vx x) (hy : IsZ w vy y) (lx : zl x ≤ 274877906944) (ly : zl y ≤ 274877906944) :
    Calls Tryd.prog 20 #[vx, vy] w (RetI w (cmpI x y)) := by
  obtain ⟨A, c, rfl, ix⟩ := hx.form
  obtain ⟨B, d, rfl, iy⟩ := hy.form
  have hlx := abs_le lx
  have hly := abs_le ly
  have L0 := (((((Lz.mk0 w).n iy).n ix).z hy).z hx)
  clear hx hy ix iy
  have HX := fun W h => zsign_any x (.agg #[.bool (ng x), .slice A (zl x) c]) W h lx
  have HY := fun W h => zsign_any y (.agg #[.bool (ng y), .slice B (zl y) d]) W h ly
  by_cases hs : cmpI x 0 = cmpI y 0
  · have hk := cmpI_range (x.natAbs : Int) (y.natAbs : Int)
    have HN := Lib.hid (fun W h1 h2 => cmpB_any x.natAbs y.natAbs (.slice A (zl x) c) (.slice B (zl y) d) W h1 h2)
    rcases Int.lt_trichotomy x 0 with h | h | h
    · have hy := sign_neg hs h
      have HE := Lib.hid (cmp_same_neg h hy)
      rw [cmpI_lt h] at HX
      rw [cmpI_lt hy] at HY
      generalize cmpI (x.natAbs : Int) (y.natAbs : Int) = k at *
      have HX2 := Lib.hid HX
      have HY2 := Lib.hid HY
      have hcm := fun W => compareI_any (-1) (-1) W
      rw [cmpI_eq] at hcm
      have HCM := Lib.hid hcm
      clear HX HY hs h hy hcm
      generalize ng x = b at *
      generalize ng y = b2 at *
      go_enter Tryd.func20, Tryd.ntmps20
      go_wp2_with fail
      have L := ((L0.box (w.heap.size) (by simp) b A (zl x) c).box (w.heap.size + 1) (by simp) b2 B (zl y) d)
      have c00 := L.b0.c0
      have c01 := L.b0.c1
      have c10 := L.tl.b0.c0
      have c11 := L.tl.b0.c1
      refine (HX2.out _ (L.getZ (by simp))).mono ?_
      rintro e w1 ⟨rfl, be⟩
      clear c00 c01 c10 c11
      replace L := L.step be
      clear be HX2
      have c00 := L.b0.c0
      have c01 := L.b0.c1
      have c10 := L.tl.b0.c0
      have c11 := L.tl.b0.c1
      go_wp2_with fail
      refine (HY2.out _ (L.getZ (by simp))).mono ?_
      rintro e w2 ⟨rfl, be⟩
      clear c00 c01 c10 c11
      replace L := L.step be
      clear be HY2
      have c00 := L.b0.c0
      have c01 := L.b0.c1
      have c10 := L.tl.b0.c0
      have c11 := L.tl.b0.c1
      go_wp2_with fail
      refine (HCM.out _).mono ?_
      rintro e w' ⟨rfl, rfl⟩
      clear HCM
      go_wp2_with fail
      refine (HN.out _ (L.getN (by simp)) (L.getN (by simp))).mono ?_
      rintro e w3 ⟨rfl, be⟩
      clear c00 c01 c10 c11
      replace L := L.step be
      clear be HN
      have c00 := L.b0.c0
      have c01 := L.b0.c1
      have c10 := L.tl.b0.c0
      have c11 := L.tl.b0.c1
      go_wp2_with fail
      go_ret
      exact ⟨by rw [HE.out] <;> rfl, L.below⟩
    · have hy := sign_zero hs h
      have HE := Lib.hid (show cmpI x y = 0 from by rw [h, hy, cmpI_eq])
      rw [show cmpI x 0 = 0 from by rw [h, cmpI_eq]] at HX
      rw [show cmpI y 0 = 0 from by rw [hy, cmpI_eq]] at HY
      generalize cmpI (x.natAbs : Int) (y.natAbs : Int) = k at *
      have HX2 := Lib.hid HX
      have HY2 := Lib.hid HY
      have hcm := fun W => compareI_any 0 0 W
      rw [cmpI_eq] at hcm
      have HCM := Lib.hid hcm
      clear HX HY hs h hy hcm
      generalize ng x = b at *
      generalize ng y = b2 at *
      go_enter Tryd.func20, Tryd.ntmps20
      go_wp2_with fail
      have L := ((L0.box (w.heap.size) (by simp) b A (zl x) c).box (w.heap.size + 1) (by simp) b2 B (zl y) d)
      have c00 := L.b0.c0
      have c01 := L.b0.c1
      have c10 := L.tl.b0.c0
      have c11 := L.tl.b0.c1
      refine (HX2.out _ (L.getZ (by simp))).mono ?_
      rintro e w1 ⟨rfl, be⟩
      clear c00 c01 c10 c11
      replace L := L.step be
      clear be HX2
      have c00 := L.b0.c0
      have c01 := L.b0.c1
      have c10 := L.tl.b0.c0
      have c11 := L.tl.b0.c1
      go_wp2_with fail
      refine (HY2.out _ (L.getZ (by simp))).mono ?_
      rintro e w2 ⟨rfl, be⟩
      clear c00 c01 c10 c11
      replace L := L.step be
      clear be HY2
      have c00 := L.b0.c0
      have c01 := L.b0.c1
      have c10 := L.tl.b0.c0
      have c11 := L.tl.b0.c1
      go_wp2_with fail
      refine (HCM.out _).mono ?_
      rintro e w' ⟨rfl, rfl⟩
      clear HCM
      go_wp2_with fail
      refine (HN.out _ (L.getN (by simp)) (L.getN (by simp))).mono ?_
      rintro e w3 ⟨rfl, be⟩
      clear c00 c01 c10 c11
      replace L := L.step be
      clear be HN
      have c00 := L.b0.c0
      have c01 := L.b0.c1
      have c10 := L.tl.b0.c0
      have c11 := L.tl.b0.c1
      go_wp2_with fail
      go_ret
      exact ⟨by rw [HE.out] <;> rfl, L.below⟩
    · have hy := sign_pos hs h
      have HE := Lib.hid (cmp_same_pos h hy)
      rw [cmpI_gt h] at HX
      rw [cmpI_gt hy] at HY
      generalize cmpI (x.natAbs : Int) (y.natAbs : Int) = k at *
      have HX2 := Lib.hid HX
      have HY2 := Lib.hid HY
      have hcm := fun W => compareI_any 1 1 W
      rw [cmpI_eq] at hcm
      have HCM := Lib.hid hcm
      clear HX HY hs h hy hcm
      generalize ng x = b at *
      generalize ng y = b2 at *
      go_enter Tryd.func20, Tryd.ntmps20
      go_wp2_with fail
      have L := ((L0.box (w.heap.size) (by simp) b A (zl x) c).box (w.heap.size + 1) (by simp) b2 B (zl y) d)
      have c00 := L.b0.c0
      have c01 := L.b0.c1
      have c10 := L.tl.b0.c0
      have c11 := L.tl.b0.c1
      refine (HX2.out _ (L.getZ (by simp))).mono ?_
      rintro e w1 ⟨rfl, be⟩
      clear c00 c01 c10 c11
      replace L := L.step be
      clear be HX2
      have c00 := L.b0.c0
      have c01 := L.b0.c1
      have c10 := L.tl.b0.c0
      have c11 := L.tl.b0.c1
      go_wp2_with fail
      refine (HY2.out _ (L.getZ (by simp))).mono ?_
      rintro e w2 ⟨rfl, be⟩
      clear c00 c01 c10 c11
      replace L := L.step be
      clear be HY2
      have c00 := L.b0.c0
      have c01 := L.b0.c1
      have c10 := L.tl.b0.c0
      have c11 := L.tl.b0.c1
      go_wp2_with fail
      refine (HCM.out _).mono ?_
      rintro e w' ⟨rfl, rfl⟩
      clear HCM
      go_wp2_with fail
      refine (HN.out _ (L.getN (by simp)) (L.getN (by simp))).mono ?_
      rintro e w3 ⟨rfl, be⟩
      clear c00 c01 c10 c11
      replace L := L.step be
      clear be HN
      have c00 := L.b0.c0
      have c01 := L.b0.c1
      have c10 := L.tl.b0.c0
      have c11 := L.tl.b0.c1
      go_wp2_with fail
      go_ret
      exact ⟨by rw [HE.out] <;> rfl, L.below⟩
  · have HE := Lib.hid (cmp_diff hs)
    have hne : cmpI (cmpI x 0) (cmpI y 0) ≠ 0 := fun e => hs (cmpI_zero e)
    have HX2 := Lib.hid HX
    have HY2 := Lib.hid HY
    clear HX HY hs
    generalize cmpI x 0 = s1 at *
    generalize cmpI y 0 = s2 at *
    have HCM := Lib.hid (fun W => compareI_any s1 s2 W)
    generalize cmpI s1 s2 = k at *
    have hk : (k == 0) = false := by rw [beq_eq_false_iff_ne]; exact hne
    have hk2 : (k != 0) = true := by rw [bne, hk]; rfl
    generalize ng x = b at *
    generalize ng y = b2 at *
    go_enter Tryd.func20, Tryd.ntmps20
    go_wp2_with fail
    have L := ((L0.box (w.heap.size) (by simp) b A (zl x) c).box (w.heap.size + 1) (by simp) b2 B (zl y) d)
    have c00 := L.b0.c0
    have c01 := L.b0.c1
    have c10 := L.tl.b0.c0
    have c11 := L.tl.b0.c1
    refine (HX2.out _ (L.getZ (by simp))).mono ?_
    rintro e w1 ⟨rfl, be⟩
    clear c00 c01 c10 c11
    replace L := L.step be
    clear be HX2
    have c00 := L.b0.c0
    have c01 := L.b0.c1
    have c10 := L.tl.b0.c0
    have c11 := L.tl.b0.c1
    go_wp2_with fail
    refine (HY2.out _ (L.getZ (by simp))).mono ?_
    rintro e w2 ⟨rfl, be⟩
    clear c00 c01 c10 c11
    replace L := L.step be
    clear be HY2
    have c00 := L.b0.c0
    have c01 := L.b0.c1
    have c10 := L.tl.b0.c0
    have c11 := L.tl.b0.c1
    go_wp2_with fail
    refine (HCM.out _).mono ?_
    rintro e w' ⟨rfl, rfl⟩
    clear HCM
    go_wp2_with fail
    go_ret
    exact ⟨by rw [HE.out] <;> rfl, L.below⟩

set_option maxHeartbeats 1000000 in
theorem zshl_any (x : Int) (vx : Value) (w : World) (hx : IsZ w vx x) (lx : zl x ≤ 274877906944) (k : Nat) (hk : k ≤ 1048576) :
    Calls Tryd.prog 36 #[vx, .int .i64 (k : Int)] w (RetZ w (x * 2 ^ k)) := by
  obtain ⟨A, c, rfl, ix⟩ := hx.form
  have hlx := abs_le lx
  have L0 := (((Lz.mk0 w).n ix).z hx)
  clear hx ix
  have HA := Lib.hid (shl_sg x k)
  have hls := len_shl x.natAbs k
  have HS := Lib.hid (fun W h => shlK_any x.natAbs k (.slice A (zl x) c) W h (by omega) (by omega))
  obtain ⟨p, hp⟩ : ∃ p, x.natAbs * 2 ^ k = p := ⟨_, rfl⟩
  obtain ⟨q, hq⟩ : ∃ q, x * 2 ^ k = q := ⟨_, rfl⟩
  rw [hp] at HA hls HS
  rw [hq] at HA ⊢
  clear hp hq
  generalize ng x = b at *
  go_enter Tryd.func36, Tryd.ntmps36
  go_wp2_with fail
  have L := ((L0.box (w.heap.size) (by simp) b A (zl x) c).box (w.heap.size + 1) (by simp) false none 0 0)
  replace L := L.drew
  have c00 := L.b0.c0
  have c01 := L.b0.c1
  have f00 := L.b0.fr 0
  have f01 := L.b0.fr 1
  have c10 := L.tl.b0.c0
  have c11 := L.tl.b0.c1
  go_region_held3 (fun w' => w'.cell? ⟨w.heap.size, 0, none⟩ = some (.bool b) ∧ w'.cell? ⟨w.heap.size, 1, none⟩ = some (.slice A (zl x) c)) (first | (with_reducible exact ⟨L.tl.b0.c0, L.tl.b0.c1⟩) | exact ⟨L.tl.b0.c0, L.tl.b0.c1⟩ | (have LP := L.put (by omega) (by simp) (ng (sg b p)) (A3) (zl (sg b p)) (c3); exact ⟨LP.tl.b0.c0, LP.tl.b0.c1⟩)) (first | (go_at_call 61; refine (HS.out _ (L.getN (by simp))).mono ?_; rintro e w2 ⟨v2, rfl, o⟩; replace L := (L.step o.below).n o.isN; clear o) | (go_at_call 40; refine (signed_any b _ _ _ L.hn (by omega)).mono ?_; rintro e w3 ⟨v3, rfl, iz, be⟩; replace L := (L.step be).z iz; obtain ⟨A3, c3, rfl, _⟩ := iz.form; clear be iz; have d30 := L.b0.c0; have d31 := L.b0.c1; have g30 := L.b0.fr 0; have g31 := L.b0.fr 1))
  clear c00 c01 f00 f01 c10 c11
  go_wp2_with fail
  have LP := L.put (by omega) (by simp) (ng (sg b p)) (A3) (zl (sg b p)) (c3)
  have d0 := LP.b0.c0
  have d1 := LP.b0.c1
  unfold put2 at d0 d1
  exact bodyPost_ret (v := .agg #[.bool (ng (sg b p)), .slice (A3) (zl (sg b p)) (c3)]) (by simp [results, Tryd.results36, go_sem, d0, d1]) rfl ⟨_, rfl, HA.out ▸ LP.hz, LP.below⟩

set_option maxHeartbeats 2000000 in
theorem zshr_any (x : Int) (vx : Value) (w : World) (hx : IsZ w vx x) (lx : zl x ≤ 274877906944) (k : Nat) (hk : k ≤ 1048576) (hT : Tab w) :
    Calls Tryd.prog 37 #[vx, .int .i64 (k : Int)] w (RetZ w (x / 2 ^ k)) := by
  obtain ⟨A, c, rfl, ix⟩ := hx.form
  have hlx := abs_le lx
  have L0 := (((Lz.mk0 w).n ix).z hx)
  clear hx ix
  have HA := shr_floor (x := x) k
  have hls : len (x.natAbs / 2 ^ k) ≤ len x.natAbs := len_mono (Nat.div_le_self _ _)
  have HS := Lib.hid (fun W h => shrK_any x.natAbs k (.slice A (zl x) c) W h (by omega) (by omega))
  have hl11 : len 1 ≤ 1 := len_le1 (by omega)
  have hl1 := len_add (x.natAbs / 2 ^ k) 1
  have HG := fun W h => zsign_any x (.agg #[.bool (ng x), .slice A (zl x) c]) W h lx
  by_cases hneg : x < 0
  · rw [cmpI_lt hneg] at HG
    rw [ng_yes hneg] at HA HG L0 ⊢
    have HG2 := Lib.hid HG
    clear HG
    have hp : 0 < x.natAbs := by omega
    have HZ := Lib.hid (fun W h h2 => nzeros_any x.natAbs (.slice A (zl x) c) W h (by omega) h2)
    have T := Lib.hid hT
    clear hT
    rcases Nat.lt_or_ge (tz x.natAbs) k with hlt | hge
    · rw [decide_eq_true ((shr_zero_or k hp).1 hlt), Bool.and_true, if_pos rfl] at HA
      have HA2 := Lib.hid HA.symm
      clear HA hneg hp
      generalize tz x.natAbs = t at *
      obtain ⟨q, hq⟩ : ∃ q, x.natAbs / 2 ^ k = q := ⟨_, rfl⟩
      obtain ⟨z, hz⟩ : ∃ z, x / 2 ^ k = z := ⟨_, rfl⟩
      rw [hq] at HA2 hls HS hl1
      rw [hz] at HA2 ⊢
      clear hq hz
      go_enter Tryd.func37, Tryd.ntmps37
      go_wp2_with fail
      have L := ((L0.box (w.heap.size) (by simp) true A (zl x) c).box (w.heap.size + 1) (by simp) false none 0 0)
      refine (HS.out _ (L.getN (by simp))).mono ?_
      rintro e w1 ⟨v1, rfl, o⟩
      replace L := (L.step o.below).n o.isN
      clear o
      have c00 := L.b0.c0
      have c01 := L.b0.c1
      have f00 := L.b0.fr 0
      have f01 := L.b0.fr 1
      have c10 := L.tl.b0.c0
      have c11 := L.tl.b0.c1
      go_wp2_with fail
      refine (HG2.out _ (L.getZ (by simp))).mono ?_
      rintro e w2 ⟨rfl, be⟩
      clear c00 c01 f00 f01 c10 c11
      replace L := L.step be
      clear be HG2
      have c00 := L.b0.c0
      have c01 := L.b0.c1
      have f00 := L.b0.fr 0
      have f01 := L.b0.fr 1
      have c10 := L.tl.b0.c0
      have c11 := L.tl.b0.c1
      go_wp2_with fail
      refine (HZ.out _ (L.getN (by simp)) (T.out.mono L.below)).mono ?_
      rintro e w' ⟨rfl, rfl⟩
      clear HZ
      go_wp2_with fail
      refine (of_any 1 _ (by omega)).mono ?_
      rintro e w3 ⟨v5, rfl, o⟩
      clear c00 c01 f00 f01 c10 c11
      replace L := (L.step o.below).n o.isN
      clear o
      have c00 := L.b0.c0
      have c01 := L.b0.c1
      have f00 := L.b0.fr 0
      have f01 := L.b0.fr 1
      have c10 := L.tl.b0.c0
      have c11 := L.tl.b0.c1
      go_wp2_with fail
      refine (add_any q 1 _ _ _ (L.getN (by simp)) (L.getN (by simp)) (by omega) (by omega)).mono ?_
      rintro e w4 ⟨v6, rfl, o⟩
      clear c00 c01 f00 f01 c10 c11
      replace L := (L.step o.below).n o.isN
      clear o
      have c00 := L.b0.c0
      have c01 := L.b0.c1
      have f00 := L.b0.fr 0
      have f01 := L.b0.fr 1
      have c10 := L.tl.b0.c0
      have c11 := L.tl.b0.c1
      have HA := HA2
      go_wp2_with fail
      refine (signed_any true (q + 1) _ _ (L.getN (by simp)) (by omega)).mono ?_
      rintro e w5 ⟨v3, rfl, iz, be⟩
      clear c00 c01 f00 f01 c10 c11
      replace L := (L.step be).z iz
      obtain ⟨A3, c3, rfl, _⟩ := iz.form
      clear be iz
      have c00 := L.b0.c0
      have c01 := L.b0.c1
      have f00 := L.b0.fr 0
      have f01 := L.b0.fr 1
      have c10 := L.tl.b0.c0
      have c11 := L.tl.b0.c1
      go_wp2_with fail
      have LP := L.put (by omega) (by simp) (ng (sg true (q + 1))) (A3) (zl (sg true (q + 1))) (c3)
      have d0 := LP.b0.c0
      have d1 := LP.b0.c1
      unfold put2 at d0 d1
      exact bodyPost_ret (v := .agg #[.bool (ng (sg true (q + 1))), .slice (A3) (zl (sg true (q + 1))) (c3)]) (by simp [results, Tryd.results37, go_sem, d0, d1]) rfl ⟨_, rfl, HA.out ▸ LP.hz, LP.below⟩
    · rw [decide_eq_false (fun h => absurd ((shr_zero_or k hp).2 h) (by omega)), Bool.and_false, if_neg (by simp)] at HA
      have HA2 := Lib.hid HA.symm
      clear HA hneg hp
      generalize tz x.natAbs = t at *
      obtain ⟨q, hq⟩ : ∃ q, x.natAbs / 2 ^ k = q := ⟨_, rfl⟩
      obtain ⟨z, hz⟩ : ∃ z, x / 2 ^ k = z := ⟨_, rfl⟩
      rw [hq] at HA2 hls HS hl1
      rw [hz] at HA2 ⊢
      clear hq hz
      go_enter Tryd.func37, Tryd.ntmps37
      go_wp2_with fail
      have L := ((L0.box (w.heap.size) (by simp) true A (zl x) c).box (w.heap.size + 1) (by simp) false none 0 0)
      refine (HS.out _ (L.getN (by simp))).mono ?_
      rintro e w1 ⟨v1, rfl, o⟩
      replace L := (L.step o.below).n o.isN
      clear o
      have c00 := L.b0.c0
      have c01 := L.b0.c1
      have f00 := L.b0.fr 0
      have f01 := L.b0.fr 1
      have c10 := L.tl.b0.c0
      have c11 := L.tl.b0.c1
      go_wp2_with fail
      refine (HG2.out _ (L.getZ (by simp))).mono ?_
      rintro e w2 ⟨rfl, be⟩
      clear c00 c01 f00 f01 c10 c11
      replace L := L.step be
      clear be HG2
      have c00 := L.b0.c0
      have c01 := L.b0.c1
      have f00 := L.b0.fr 0
      have f01 := L.b0.fr 1
      have c10 := L.tl.b0.c0
      have c11 := L.tl.b0.c1
      go_wp2_with fail
      refine (HZ.out _ (L.getN (by simp)) (T.out.mono L.below)).mono ?_
      rintro e w' ⟨rfl, rfl⟩
      clear HZ
      have HA := HA2
      go_wp2_with fail
      refine (signed_any true q _ _ (L.getN (by simp)) (by omega)).mono ?_
      rintro e w3 ⟨v3, rfl, iz, be⟩
      clear c00 c01 f00 f01 c10 c11
      replace L := (L.step be).z iz
      obtain ⟨A3, c3, rfl, _⟩ := iz.form
      clear be iz
      have c00 := L.b0.c0
      have c01 := L.b0.c1
      have f00 := L.b0.fr 0
      have f01 := L.b0.fr 1
      have c10 := L.tl.b0.c0
      have c11 := L.tl.b0.c1
      go_wp2_with fail
      have LP := L.put (by omega) (by simp) (ng (sg true q)) (A3) (zl (sg true q)) (c3)
      have d0 := LP.b0.c0
      have d1 := LP.b0.c1
      unfold put2 at d0 d1
      exact bodyPost_ret (v := .agg #[.bool (ng (sg true q)), .slice (A3) (zl (sg true q)) (c3)]) (by simp [results, Tryd.results37, go_sem, d0, d1]) rfl ⟨_, rfl, HA.out ▸ LP.hz, LP.below⟩
  · have hc0 : 0 ≤ cmpI x 0 := by unfold cmpI; rw [if_neg hneg]; split <;> omega
    rw [ng_no (by omega)] at HA HG L0 ⊢
    rw [Bool.false_and, if_neg (by simp)] at HA
    have HG2 := Lib.hid HG
    have HA2 := Lib.hid HA.symm
    clear HG HA hneg hT
    generalize cmpI x 0 = cc at *
    obtain ⟨q, hq⟩ : ∃ q, x.natAbs / 2 ^ k = q := ⟨_, rfl⟩
    obtain ⟨z, hz⟩ : ∃ z, x / 2 ^ k = z := ⟨_, rfl⟩
    rw [hq] at HA2 hls HS hl1
    rw [hz] at HA2 ⊢
    clear hq hz
    go_enter Tryd.func37, Tryd.ntmps37
    go_wp2_with fail
    have L := ((L0.box (w.heap.size) (by simp) false A (zl x) c).box (w.heap.size + 1) (by simp) false none 0 0)
    refine (HS.out _ (L.getN (by simp))).mono ?_
    rintro e w1 ⟨v1, rfl, o⟩
    replace L := (L.step o.below).n o.isN
    clear o
    have c00 := L.b0.c0
    have c01 := L.b0.c1
    have f00 := L.b0.fr 0
    have f01 := L.b0.fr 1
    have c10 := L.tl.b0.c0
    have c11 := L.tl.b0.c1
    go_wp2_with fail
    refine (HG2.out _ (L.getZ (by simp))).mono ?_
    rintro e w2 ⟨rfl, be⟩
    clear c00 c01 f00 f01 c10 c11
    replace L := L.step be
    clear be HG2
    have c00 := L.b0.c0
    have c01 := L.b0.c1
    have f00 := L.b0.fr 0
    have f01 := L.b0.fr 1
    have c10 := L.tl.b0.c0
    have c11 := L.tl.b0.c1
    have HA := HA2
    go_wp2_with fail
    refine (signed_any false q _ _ (L.getN (by simp)) (by omega)).mono ?_
    rintro e w3 ⟨v3, rfl, iz, be⟩
    clear c00 c01 f00 f01 c10 c11
    replace L := (L.step be).z iz
    obtain ⟨A3, c3, rfl, _⟩ := iz.form
    clear be iz
    have c00 := L.b0.c0
    have c01 := L.b0.c1
    have f00 := L.b0.fr 0
    have f01 := L.b0.fr 1
    have c10 := L.tl.b0.c0
    have c11 := L.tl.b0.c1
    go_wp2_with fail
    have LP := L.put (by omega) (by simp) (ng (sg false q)) (A3) (zl (sg false q)) (c3)
    have d0 := LP.b0.c0
    have d1 := LP.b0.c1
    unfold put2 at d0 d1
    exact bodyPost_ret (v := .agg #[.bool (ng (sg false q)), .slice (A3) (zl (sg false q)) (c3)]) (by simp [results, Tryd.results37, go_sem, d0, d1]) rfl ⟨_, rfl, HA.out ▸ LP.hz, LP.below⟩

end Go.Proofs.YtajegednakenbaaDoor
