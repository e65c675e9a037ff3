/- The reference's Neg, Top, one, Cmp. -/
import Derived.Test.YtpgiolbnmlbjbaaGreatDoorDyA
import Derived.Test.YtpgiolbnmlbjbaaGreatDoorBaseJ
import Derived.Deep.RegionHeld3
import Derived.Deep.DrawnRows
namespace Go.Proofs.YtpgiolbnmlbjbaaGreatDoor
open Go.RowKit
set_option linter.unusedVariables false
set_option linter.unusedSimpArgs false
set_option maxRecDepth 100000
attribute [local go_sem ↓] Go.wp_at_zero Go.wp_at_succ

set_option maxHeartbeats 2000000 in
theorem rneg8_any (m e : Int) (vx : Value) (w : World) (hx : IsD w vx m e) (lm : zl m ≤ 100000000) :
    Calls Tryz.prog 32 #[vx] w (RetD8 w (-m) e) := by
  obtain ⟨A, c, rfl, hz, hn⟩ := hx.form
  have h1 := fun v W h => rzneg_any m v W h (by omega)
  have L0 := ((Lq.mk0 w).z hz).n hn
  obtain ⟨na, hna⟩ : ∃ na, -m = na := ⟨_, rfl⟩
  rw [hna] at h1 ⊢
  have H1 := Lib.hid h1
  clear hx hz hn h1 hna
  go_enter Tryz.func32, Tryz.ntmps32
  go_wp2_with fail
  have L := ((L0.varD (w.heap.size) (by simp) (ng m) A (zl m) c e).varD (w.heap.size + 1) (by simp) false none 0 0 0)
  replace L := L.drew
  have c00 := L.b0.c30
  have f00 := L.b0.fr 0
  have c01 := L.b0.c31
  have f01 := L.b0.fr 1
  have c02 := L.b0.c32
  have f02 := L.b0.fr 2
  have c10 := L.tl.b0.c30
  have c11 := L.tl.b0.c31
  have c12 := L.tl.b0.c32
  go_region_held3 (fun w' => w'.cell? ⟨w.heap.size, 0, none⟩ = some (.bool (ng m)) ∧ w'.cell? ⟨w.heap.size, 1, none⟩ = some (.slice A (zl m) c) ∧ w'.cell? ⟨w.heap.size, 2, none⟩ = some (.int .i64 e)) (first | (with_reducible exact ⟨L.tl.b0.c30, L.tl.b0.c31, L.tl.b0.c32⟩) | exact ⟨L.tl.b0.c30, L.tl.b0.c31, L.tl.b0.c32⟩ | (have LP := L.putD (by omega) (by first | (simp; done) | (simp; omega)) (ng na) A9 (zl na) c9 (e); exact ⟨LP.tl.b0.c30, LP.tl.b0.c31, LP.tl.b0.c32⟩)) (first | (go_at_call 83; (with_reducible refine (H1.out _ _ ?_ ).mono ?_); (· (refine L.getZ ?_; (repeat (first | (with_reducible exact List.mem_cons_self) | apply List.mem_cons_of_mem)))); rintro e wh ⟨vh, rfl, iz, be⟩; replace L := (L.step be).z iz; obtain ⟨A9, c9, rfl, _⟩ := iz.form; clear be iz; (try (have x00 := L.b0.c30; have x01 := L.b0.c31; have x02 := L.b0.c32; have y00 := L.b0.fr 0; have y01 := L.b0.fr 1; have y02 := L.b0.fr 2))))
  clear c00 f00 c01 f01 c02 f02 c10 c11 c12
  go_wp2_with fail
  have LP := L.putD (by omega) (by first | (simp; done) | (simp; omega)) (ng na) A9 (zl na) c9 (e)
  have k0 := LP.b0.c30
  have k1 := LP.b0.c31
  have k2 := LP.b0.c32
  unfold put3 at k0 k1 k2
  exact bodyPost_ret (v := .agg #[.bool (ng na), .slice A9 (zl na) c9, .int .i64 (e)]) (by simp [results, Tryz.results32, go_sem, k0, k1, k2]) rfl ⟨_, rfl, isD_z LP.hz, LP.below⟩
set_option maxHeartbeats 1000000 in
theorem rsign8_any (m e : Int) (vx : Value) (w : World) (hx : IsD w vx m e) (lm : zl m ≤ 100000000) :
    Calls Tryz.prog 39 #[vx] w (RetI w (cmpI m 0)) := by
  obtain ⟨A, c, rfl, hz, hn⟩ := hx.form
  have HS := Lib.hid (fun W h => rzsign_any m (.agg #[.bool (ng m), .slice A (zl m) c]) W h (by omega))
  have L0 := (Lq.mk0 w).z hz
  clear hx hz hn
  generalize cmpI m 0 = k at *
  go_enter Tryz.func39, Tryz.ntmps39
  go_wp2_with fail
  have L := (L0.varD (w.heap.size) (by simp) (ng m) A (zl m) c e)
  have c00 := L.b0.c30
  have f00 := L.b0.fr 0
  have c01 := L.b0.c31
  have f01 := L.b0.fr 1
  have c02 := L.b0.c32
  have f02 := L.b0.fr 2
  refine (HS.out _ (L.getZ (by simp))).mono ?_
  rintro e w1 ⟨rfl, be⟩
  clear c00 f00 c01 f01 c02 f02
  replace L := L.step be
  clear be
  go_wp2_with fail
  go_ret
  exact ⟨rfl, L.below⟩
/-- The least t with |m| 2^e < 2^t. -/
def topZ (m e : Int) : Int := if m = 0 then 0 else (blen m.natAbs : Int) + e
set_option maxHeartbeats 2000000 in
theorem rtop_any (m e : Int) (vx : Value) (w : World) (hx : IsD w vx m e) (lm : zl m ≤ 100000000) (he : -1000000 ≤ e ∧ e ≤ 1000000) :
    Calls Tryz.prog 41 #[vx] w (RetI w (topZ m e)) := by
  obtain ⟨A, c, rfl, hz, hn⟩ := hx.form
  have H1 := Lib.hid (fun v W h => rbits_any m.natAbs v W h (Nat.le_trans lm (by omega)))
  have L0 := ((Lq.mk0 w).z hz).n hn
  clear hx hz hn
  obtain ⟨r, hr⟩ : ∃ r, topZ m e = r := ⟨_, rfl⟩
  rw [hr]
  unfold topZ at hr
  rcases Nat.eq_zero_or_pos (zl m) with h0 | h0
  · obtain rfl : m = 0 := by rcases Int.lt_trichotomy m 0 with h | h | h; exact absurd (zl_pos (z := m) (by omega)) (by omega); exact h; exact absurd (zl_pos (z := m) (by omega)) (by omega)
    obtain rfl : 0 = r := by simpa using hr
    rw [h0] at L0 ⊢
    go_enter Tryz.func41, Tryz.ntmps41
    go_wp2_with fail
    have L := (L0.varD (w.heap.size) (by simp) (ng 0) A 0 c e)
    have c00 := L.b0.c30
    have f00 := L.b0.fr 0
    have c01 := L.b0.c31
    have f01 := L.b0.fr 1
    have c02 := L.b0.c32
    have f02 := L.b0.fr 2
    go_ret
    exact ⟨rfl, L.below⟩
  · have hm : m ≠ 0 := fun h => by rw [h, zl_zero] at h0; omega
    rw [if_neg hm] at hr
    have hp : (0 : Int) < (zl m : Int) := by omega
    have hbl : blen m.natAbs ≤ 3200000000 := Nat.le_trans (blen_le_len m.natAbs) (by have : len m.natAbs ≤ 100000000 := lm; omega)
    obtain ⟨bl, hb⟩ : ∃ bl, blen m.natAbs = bl := ⟨_, rfl⟩
    rw [hb] at H1 hr hbl
    have hw : IntKind.i64.wrap ((bl : Int) + e) = r := by rw [hr]; rw [IntKind.wrap_i64]; omega
    clear hb hr
    go_enter Tryz.func41, Tryz.ntmps41
    go_wp2_with fail
    have L := (L0.varD (w.heap.size) (by simp) (ng m) A (zl m) c e)
    replace L := L.drew
    have c00 := L.b0.c30
    have f00 := L.b0.fr 0
    have c01 := L.b0.c31
    have f01 := L.b0.fr 1
    have c02 := L.b0.c32
    have f02 := L.b0.fr 2
    go_region_held3 (fun w' => w'.cell? ⟨w.heap.size, 0, none⟩ = some (.bool (ng m)) ∧ w'.cell? ⟨w.heap.size, 1, none⟩ = some (.slice A (zl m) c) ∧ w'.cell? ⟨w.heap.size, 2, none⟩ = some (.int .i64 e)) (first | (with_reducible exact ⟨L.b0.c30, L.b0.c31, L.b0.c32⟩) | exact ⟨L.b0.c30, L.b0.c31, L.b0.c32⟩) (first | (go_at_call 65; (with_reducible refine (H1.out _ _ ?_ ).mono ?_); (· (refine L.getN ?_; (repeat (first | (with_reducible exact List.mem_cons_self) | apply List.mem_cons_of_mem)))); rintro e wh ⟨rfl, rfl⟩; skip))
    clear c00 f00 c01 f01 c02 f02
    go_wp2_with fail
    go_ret
    exact ⟨rfl, L.below⟩

end Go.Proofs.YtpgiolbnmlbjbaaGreatDoor
