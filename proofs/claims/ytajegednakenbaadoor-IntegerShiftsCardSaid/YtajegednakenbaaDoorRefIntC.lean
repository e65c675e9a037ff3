/- Walks: the reference's Shl, Shr. -/
import Derived.Test.YtajegednakenbaaDoorRefIntA
import Derived.Test.YtajegednakenbaaDoorIntMath
import Derived.Test.YtajegednakenbaaDoorLive
import Derived.Deep.RegionHeld3
import Derived.Deep.DrawnRows
namespace Go.Proofs.YtajegednakenbaaDoor
open Go.RowKit
set_option linter.unusedVariables false
set_option linter.unusedSimpArgs false
attribute [local go_sem ↓] Go.wp_at_zero Go.wp_at_succ

set_option maxHeartbeats 1000000 in
theorem rzshl_any (x : Int) (vx : Value) (w : World) (hx : IsZ w vx x) (lx : zl x ≤ 274877906944) (k : Nat) (hk : k ≤ 1048576) :
    Calls Tryd.prog 38 #[vx, .int .i64 (k : Int)] w (RetZ w (x * 2 ^ k)) := by
  obtain ⟨A, c, rfl, ix⟩ := hx.form
  have hlx := abs_le lx
  have L0 := (((Lz.mk0 w).n ix).z hx)
  clear hx ix
  have HA := Lib.hid (shl_sg x k)
  have hls := len_shl x.natAbs k
  have HS := Lib.hid (fun W h => rshlK_any x.natAbs k (.slice A (zl x) c) W h (by omega) (by omega))
  obtain ⟨p, hp⟩ : ∃ p, x.natAbs * 2 ^ k = p := ⟨_, rfl⟩
  obtain ⟨q, hq⟩ : ∃ q, x * 2 ^ k = q := ⟨_, rfl⟩
  rw [hp] at HA hls HS
  rw [hq] at HA ⊢
  clear hp hq
  generalize ng x = b at *
  go_enter Tryd.func38, Tryd.ntmps38
  go_wp2_with fail
  have L := ((L0.box (w.heap.size) (by simp) b A (zl x) c).box (w.heap.size + 1) (by simp) false none 0 0)
  replace L := L.drew
  have c00 := L.b0.c0
  have c01 := L.b0.c1
  have f00 := L.b0.fr 0
  have f01 := L.b0.fr 1
  have c10 := L.tl.b0.c0
  have c11 := L.tl.b0.c1
  go_region_held3 (fun w' => w'.cell? ⟨w.heap.size, 0, none⟩ = some (.bool b) ∧ w'.cell? ⟨w.heap.size, 1, none⟩ = some (.slice A (zl x) c)) (first | (with_reducible exact ⟨L.tl.b0.c0, L.tl.b0.c1⟩) | exact ⟨L.tl.b0.c0, L.tl.b0.c1⟩ | (have LP := L.put (by omega) (by simp) (ng (sg b p)) (A3) (zl (sg b p)) (c3); exact ⟨LP.tl.b0.c0, LP.tl.b0.c1⟩)) (first | (go_at_call 64; refine (HS.out _ (L.getN (by simp))).mono ?_; rintro e w2 ⟨v2, rfl, o⟩; replace L := (L.step o.below).n o.isN; clear o) | (go_at_call 17; refine (rznatN_any b _ _ _ L.hn (by omega)).mono ?_; rintro e w3 ⟨v3, rfl, iz, be⟩; replace L := (L.step be).z iz; obtain ⟨A3, c3, rfl, _⟩ := iz.form; clear be iz; have d30 := L.b0.c0; have d31 := L.b0.c1; have g30 := L.b0.fr 0; have g31 := L.b0.fr 1))
  clear c00 c01 f00 f01 c10 c11
  go_wp2_with fail
  have LP := L.put (by omega) (by simp) (ng (sg b p)) (A3) (zl (sg b p)) (c3)
  have d0 := LP.b0.c0
  have d1 := LP.b0.c1
  unfold put2 at d0 d1
  exact bodyPost_ret (v := .agg #[.bool (ng (sg b p)), .slice (A3) (zl (sg b p)) (c3)]) (by simp [results, Tryd.results38, go_sem, d0, d1]) rfl ⟨_, rfl, HA.out ▸ LP.hz, LP.below⟩

set_option maxHeartbeats 2000000 in
theorem rzshr_any (x : Int) (vx : Value) (w : World) (hx : IsZ w vx x) (lx : zl x ≤ 274877906944) (k : Nat) (hk : k ≤ 1048576) :
    Calls Tryd.prog 39 #[vx, .int .i64 (k : Int)] w (RetZ w (x / 2 ^ k)) := by
  obtain ⟨A, c, rfl, ix⟩ := hx.form
  have hlx := abs_le lx
  have L0 := (((Lz.mk0 w).n ix).z hx)
  clear hx ix
  have HA := shr_floor (x := x) k
  have hls : len (x.natAbs / 2 ^ k) ≤ len x.natAbs := len_mono (Nat.div_le_self _ _)
  have HS := Lib.hid (fun W h => rshrK_any x.natAbs k (.slice A (zl x) c) W h (by omega) (by omega))
  have hl11 : len 1 ≤ 1 := len_le1 (by omega)
  have hl1 := len_add (x.natAbs / 2 ^ k) 1
  by_cases hneg : x < 0
  · rw [ng_yes hneg] at HA L0 ⊢
    have hsh := len_shl (x.natAbs / 2 ^ k) k
    have HZ := Lib.hid (fun v W h => rshlK_any (x.natAbs / 2 ^ k) k v W h (by omega) (by omega))
    have HCM := fun v W h1 h2 => rcmpB_any (x.natAbs / 2 ^ k * 2 ^ k) x.natAbs v (.slice A (zl x) c) W h1 h2
    have hdm := Nat.div_add_mod x.natAbs (2 ^ k)
    rw [Nat.mul_comm] at hdm
    rcases Nat.eq_zero_or_pos (x.natAbs % 2 ^ k) with hm | hm
    · rw [hm] at HA hdm
      rw [show decide (0 < 0) = false from rfl, Bool.and_false, if_neg (by simp)] at HA
      rw [show cmpI ((x.natAbs / 2 ^ k * 2 ^ k : Nat) : Int) (x.natAbs : Int) = 0 from by rw [show x.natAbs / 2 ^ k * 2 ^ k = x.natAbs from by omega, cmpI_eq]] at HCM
      have hcc : True := trivial
      have hcc2 : True := trivial
      have HA2 := Lib.hid HA.symm
      have HCM2 := Lib.hid HCM
      clear HA hneg hm HCM hdm hcc hcc2
      obtain ⟨q, hq⟩ : ∃ q, x.natAbs / 2 ^ k = q := ⟨_, rfl⟩
      obtain ⟨z, hz⟩ : ∃ z, x / 2 ^ k = z := ⟨_, rfl⟩
      rw [hq] at HA2 hls HS hl1 HZ HCM2 hsh
      rw [hz] at HA2 ⊢
      clear hq hz
      obtain ⟨p, hp⟩ : ∃ p, q * 2 ^ k = p := ⟨_, rfl⟩
      rw [hp] at HZ HCM2 hsh
      clear hp
      go_enter Tryd.func39, Tryd.ntmps39
      go_wp2_with fail
      have L := ((L0.box (w.heap.size) (by simp) true A (zl x) c).box (w.heap.size + 1) (by simp) false none 0 0)
      refine (HS.out _ (L.getN (by simp))).mono ?_
      rintro e w1 ⟨v1, rfl, o⟩
      replace L := (L.step o.below).n o.isN
      clear o
      have c00 := L.b0.c0
      have c01 := L.b0.c1
      have f00 := L.b0.fr 0
      have f01 := L.b0.fr 1
      have c10 := L.tl.b0.c0
      have c11 := L.tl.b0.c1
      go_wp2_with fail
      replace L := L.drew
      go_region_held3 (fun w' => w'.cell? ⟨w.heap.size, 0, none⟩ = some (.bool true) ∧ w'.cell? ⟨w.heap.size, 1, none⟩ = some (.slice A (zl x) c)) (first | (with_reducible exact ⟨L.tl.b0.c0, L.tl.b0.c1⟩) | exact ⟨L.tl.b0.c0, L.tl.b0.c1⟩) (first | (go_at_call 64; refine (HZ.out _ _ (L.getN (by simp))).mono ?_; rintro e w2 ⟨v2, rfl, o⟩; replace L := (L.step o.below).n o.isN; clear o) | (go_at_call 34; refine (HCM2.out _ _ L.hn (L.getN (by simp))).mono ?_; rintro e w3 ⟨rfl, be⟩; replace L := L.step be; clear be))
      clear c00 c01 f00 f01 c10 c11
      have c00 := L.b0.c0
      have c01 := L.b0.c1
      have f00 := L.b0.fr 0
      have f01 := L.b0.fr 1
      have c10 := L.tl.b0.c0
      have c11 := L.tl.b0.c1
      have HA := HA2
      go_wp2_with fail
      refine (rznatN_any true q _ _ (L.getN (by simp)) (by omega)).mono ?_
      rintro e w4 ⟨v3, rfl, iz, be⟩
      clear c00 c01 f00 f01 c10 c11
      replace L := (L.step be).z iz
      obtain ⟨A3, c3, rfl, _⟩ := iz.form
      clear be iz
      have c00 := L.b0.c0
      have c01 := L.b0.c1
      have f00 := L.b0.fr 0
      have f01 := L.b0.fr 1
      have c10 := L.tl.b0.c0
      have c11 := L.tl.b0.c1
      go_wp2_with fail
      have LP := L.put (by omega) (by simp) (ng (sg true q)) (A3) (zl (sg true q)) (c3)
      have d0 := LP.b0.c0
      have d1 := LP.b0.c1
      unfold put2 at d0 d1
      exact bodyPost_ret (v := .agg #[.bool (ng (sg true q)), .slice (A3) (zl (sg true q)) (c3)]) (by simp [results, Tryd.results39, go_sem, d0, d1]) rfl ⟨_, rfl, HA.out ▸ LP.hz, LP.below⟩
    · rw [decide_eq_true hm, Bool.and_true, if_pos rfl] at HA
      rw [cmpI_lt (show ((x.natAbs / 2 ^ k * 2 ^ k : Nat) : Int) < (x.natAbs : Int) from by omega)] at HCM
      have hcc : True := trivial
      have hcc2 : True := trivial
      have HA2 := Lib.hid HA.symm
      have HCM2 := Lib.hid HCM
      clear HA hneg hm HCM hdm hcc hcc2
      obtain ⟨q, hq⟩ : ∃ q, x.natAbs / 2 ^ k = q := ⟨_, rfl⟩
      obtain ⟨z, hz⟩ : ∃ z, x / 2 ^ k = z := ⟨_, rfl⟩
      rw [hq] at HA2 hls HS hl1 HZ HCM2 hsh
      rw [hz] at HA2 ⊢
      clear hq hz
      obtain ⟨p, hp⟩ : ∃ p, q * 2 ^ k = p := ⟨_, rfl⟩
      rw [hp] at HZ HCM2 hsh
      clear hp
      go_enter Tryd.func39, Tryd.ntmps39
      go_wp2_with fail
      have L := ((L0.box (w.heap.size) (by simp) true A (zl x) c).box (w.heap.size + 1) (by simp) false none 0 0)
      refine (HS.out _ (L.getN (by simp))).mono ?_
      rintro e w1 ⟨v1, rfl, o⟩
      replace L := (L.step o.below).n o.isN
      clear o
      have c00 := L.b0.c0
      have c01 := L.b0.c1
      have f00 := L.b0.fr 0
      have f01 := L.b0.fr 1
      have c10 := L.tl.b0.c0
      have c11 := L.tl.b0.c1
      go_wp2_with fail
      replace L := L.drew
      go_region_held3 (fun w' => w'.cell? ⟨w.heap.size, 0, none⟩ = some (.bool true) ∧ w'.cell? ⟨w.heap.size, 1, none⟩ = some (.slice A (zl x) c)) (first | (with_reducible exact ⟨L.tl.b0.c0, L.tl.b0.c1⟩) | exact ⟨L.tl.b0.c0, L.tl.b0.c1⟩) (first | (go_at_call 64; refine (HZ.out _ _ (L.getN (by simp))).mono ?_; rintro e w2 ⟨v2, rfl, o⟩; replace L := (L.step o.below).n o.isN; clear o) | (go_at_call 34; refine (HCM2.out _ _ L.hn (L.getN (by simp))).mono ?_; rintro e w3 ⟨rfl, be⟩; replace L := L.step be; clear be))
      clear c00 c01 f00 f01 c10 c11
      have c00 := L.b0.c0
      have c01 := L.b0.c1
      have f00 := L.b0.fr 0
      have f01 := L.b0.fr 1
      have c10 := L.tl.b0.c0
      have c11 := L.tl.b0.c1
      go_wp2_with fail
      refine (rof_any 1 _ (by omega)).mono ?_
      rintro e w4 ⟨v5, rfl, o⟩
      clear c00 c01 f00 f01 c10 c11
      replace L := (L.step o.below).n o.isN
      clear o
      have c00 := L.b0.c0
      have c01 := L.b0.c1
      have f00 := L.b0.fr 0
      have f01 := L.b0.fr 1
      have c10 := L.tl.b0.c0
      have c11 := L.tl.b0.c1
      go_wp2_with fail
      refine (radd_any q 1 _ _ _ (L.getN (by simp)) (L.getN (by simp)) (by omega) (by omega)).mono ?_
      rintro e w5 ⟨v6, rfl, o⟩
      clear c00 c01 f00 f01 c10 c11
      replace L := (L.step o.below).n o.isN
      clear o
      have c00 := L.b0.c0
      have c01 := L.b0.c1
      have f00 := L.b0.fr 0
      have f01 := L.b0.fr 1
      have c10 := L.tl.b0.c0
      have c11 := L.tl.b0.c1
      have HA := HA2
      go_wp2_with fail
      refine (rznatN_any true (q + 1) _ _ (L.getN (by simp)) (by omega)).mono ?_
      rintro e w6 ⟨v3, rfl, iz, be⟩
      clear c00 c01 f00 f01 c10 c11
      replace L := (L.step be).z iz
      obtain ⟨A3, c3, rfl, _⟩ := iz.form
      clear be iz
      have c00 := L.b0.c0
      have c01 := L.b0.c1
      have f00 := L.b0.fr 0
      have f01 := L.b0.fr 1
      have c10 := L.tl.b0.c0
      have c11 := L.tl.b0.c1
      go_wp2_with fail
      have LP := L.put (by omega) (by simp) (ng (sg true (q + 1))) (A3) (zl (sg true (q + 1))) (c3)
      have d0 := LP.b0.c0
      have d1 := LP.b0.c1
      unfold put2 at d0 d1
      exact bodyPost_ret (v := .agg #[.bool (ng (sg true (q + 1))), .slice (A3) (zl (sg true (q + 1))) (c3)]) (by simp [results, Tryd.results39, go_sem, d0, d1]) rfl ⟨_, rfl, HA.out ▸ LP.hz, LP.below⟩
  · rw [ng_no (by omega)] at HA L0 ⊢
    rw [Bool.false_and, if_neg (by simp)] at HA
    have HA2 := Lib.hid HA.symm
    clear HA hneg
    obtain ⟨q, hq⟩ : ∃ q, x.natAbs / 2 ^ k = q := ⟨_, rfl⟩
    obtain ⟨z, hz⟩ : ∃ z, x / 2 ^ k = z := ⟨_, rfl⟩
    rw [hq] at HA2 hls HS hl1
    rw [hz] at HA2 ⊢
    clear hq hz
    go_enter Tryd.func39, Tryd.ntmps39
    go_wp2_with fail
    have L := ((L0.box (w.heap.size) (by simp) false A (zl x) c).box (w.heap.size + 1) (by simp) false none 0 0)
    refine (HS.out _ (L.getN (by simp))).mono ?_
    rintro e w1 ⟨v1, rfl, o⟩
    replace L := (L.step o.below).n o.isN
    clear o
    have c00 := L.b0.c0
    have c01 := L.b0.c1
    have f00 := L.b0.fr 0
    have f01 := L.b0.fr 1
    have c10 := L.tl.b0.c0
    have c11 := L.tl.b0.c1
    go_wp2_with fail
    go_quiet (fail)
    replace L := L.step (belowN (Below.refl _ _) nq)
    clear c00 c01 f00 f01 c10 c11
    have c00 := L.b0.c0
    have c01 := L.b0.c1
    have f00 := L.b0.fr 0
    have f01 := L.b0.fr 1
    have c10 := L.tl.b0.c0
    have c11 := L.tl.b0.c1
    have HA := HA2
    go_wp2_with fail
    refine (rznatN_any false q _ _ (L.getN (by simp)) (by omega)).mono ?_
    rintro e w2 ⟨v3, rfl, iz, be⟩
    clear c00 c01 f00 f01 c10 c11
    replace L := (L.step be).z iz
    obtain ⟨A3, c3, rfl, _⟩ := iz.form
    clear be iz
    have c00 := L.b0.c0
    have c01 := L.b0.c1
    have f00 := L.b0.fr 0
    have f01 := L.b0.fr 1
    have c10 := L.tl.b0.c0
    have c11 := L.tl.b0.c1
    go_wp2_with fail
    have LP := L.put (by omega) (by simp) (ng (sg false q)) (A3) (zl (sg false q)) (c3)
    have d0 := LP.b0.c0
    have d1 := LP.b0.c1
    unfold put2 at d0 d1
    exact bodyPost_ret (v := .agg #[.bool (ng (sg false q)), .slice (A3) (zl (sg false q)) (c3)]) (by simp [results, Tryd.results39, go_sem, d0, d1]) rfl ⟨_, rfl, HA.out ▸ LP.hz, LP.below⟩

end Go.Proofs.YtajegednakenbaaDoor
