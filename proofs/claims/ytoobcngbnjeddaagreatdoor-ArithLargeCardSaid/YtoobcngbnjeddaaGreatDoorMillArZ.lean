/- The laws' of, works; the mill's Thin. -/
import Derived.Test.YtoobcngbnjeddaaGreatDoorBaseWZ
import Derived.Test.YtoobcngbnjeddaaGreatDoorBaseXZ
import Derived.Test.YtoobcngbnjeddaaGreatDoorBaseE
namespace Go.Proofs.YtoobcngbnjeddaaGreatDoor
open Go.RowKit
set_option linter.unusedVariables false
set_option linter.unusedSimpArgs false
set_option maxRecDepth 100000
attribute [local go_sem ↓] Go.wp_at_zero Go.wp_at_succ

theorem mk_val11 {m e : Int} {z : Nat} {M : Int} (h : mkR m e = 0) (hm : m ≠ 0) (hz : tz m.natAbs = z) (ho : oddM m = M) : mkM m e = M ∧ mkE m e = e + (z : Int) := by
  unfold mkM mkE
  rw [h, if_pos rfl, if_neg hm, if_pos rfl, ho]
  refine ⟨rfl, ?_⟩
  unfold oddE
  rw [hz]
theorem small11 {m : Int} (h : m.natAbs < 4294967296) : zl m ≤ 1900 := Nat.le_trans (len_le1 h) (by omega)
theorem mk_odd11 {M : Int} {z : Nat} {m e : Int} (hm : M * 2 ^ z = m) (ho : M.natAbs % 2 = 1) (hs : m.natAbs < 4294967296) (h1 : -4000 ≤ e) (h2 : e ≤ 4000) : mkM m e = M ∧ mkE m e = e + (z : Int) := by
  have h := mk_fits (m := m) (e := e) (small11 hs) h1 h2
  have hm0 : m ≠ 0 := by
    have hM : M ≠ 0 := fun h0 => by rw [h0] at ho; exact absurd ho (by decide)
    rw [← hm]
    exact Int.mul_ne_zero hM (pow2_ne z)
  have hz : tz m.natAbs = z := by rw [← hm, abs_shl]; exact tz_odd ho z
  have ho2 : oddM m = M := by rw [← hm]; exact odd_shl ho z
  exact mk_val11 h hm0 hz ho2
theorem of_0 : mkM 0 0 = 0 ∧ mkE 0 0 = 0 := by
  have h := mk_fits (m := 0) (e := 0) (small11 (by decide)) (by decide) (by decide)
  unfold mkM mkE
  rw [h, if_pos rfl, if_pos rfl, oddM_zero]
  exact ⟨rfl, rfl⟩
theorem zl_small {m : Int} (h : m.natAbs < 4294967296) : zl m ≤ 6 := Nat.le_trans (len_le1 h) (by omega)
theorem zl0 : zl 0 ≤ 6 := zl_small (by decide)
theorem plainI4 (N0 N1 N2 N3 : Int) : Plain #[.int .i64 N0, .int .i64 N1, .int .i64 N2, .int .i64 N3] := fun j x => by
  match j with
  | 0 => simp
  | 1 => simp
  | 2 => simp
  | 3 => simp
  | j + 4 => simp
/-- A row of four integers. -/
def RetWk (w : World) (en : Ending) (w' : World) : Prop := ∃ g N0 N1 N2 N3, en = .returned (.slice (some ⟨g, 0, none⟩) 4 4) ∧ Var w' g 3 #[.int .i64 N0, .int .i64 N1, .int .i64 N2, .int .i64 N3] ∧ (∀ N ∈ [N0, N1, N2, N3], -9223372036854775808 ≤ N ∧ N ≤ 9223372036854775807) ∧ Below w.heap.size w w'
theorem row4_cell {w : World} {g : Nat} {N0 N1 N2 N3 : Int} {t : TypeId} (h : Var w g t #[.int .i64 N0, .int .i64 N1, .int .i64 N2, .int .i64 N3]) (hN : ∀ N ∈ [N0, N1, N2, N3], -9223372036854775808 ≤ N ∧ N ≤ 9223372036854775807) (j : Nat) (hj : j < 4) : ∃ N : Int, w.cell? ⟨g, j, none⟩ = some (.int .i64 N) ∧ -9223372036854775808 ≤ N ∧ N ≤ 9223372036854775807 := by
  rcases (show j = 0 ∨ j = 1 ∨ j = 2 ∨ j = 3 by omega) with rfl | rfl | rfl | rfl
  · exact ⟨N0, h.cell 0, hN _ (by simp)⟩
  · exact ⟨N1, h.cell 1, hN _ (by simp)⟩
  · exact ⟨N2, h.cell 2, hN _ (by simp)⟩
  · exact ⟨N3, h.cell 3, hN _ (by simp)⟩
set_option maxHeartbeats 4000000 in
theorem of11_any (a b : Int) (w : World) (h1 : -1000 ≤ a ∧ a ≤ 1000) (h2 : -1000 ≤ b ∧ b ≤ 1000) :
    Calls Tryz.prog 22 #[.int .i64 a, .int .i64 b] w (RetI6 w (mkM a 0) (mkE a 0) (mkM b 0) (mkE b 0)) := by
  have HA := Lib.hid (fun W => rof8_any a W (by omega) (by omega))
  have HB := Lib.hid (fun W => rof8_any b W (by omega) (by omega))
  generalize mkM a 0 = m at *
  generalize mkE a 0 = e at *
  generalize mkM b 0 = n at *
  generalize mkE b 0 = f at *
  clear h1 h2
  go_enter Tryz.func22, Tryz.ntmps22
  go_wp2_with fail
  have L := ((Lq.mk0 w).varI (w.heap.size) (by simp) false none 0 0 0 false none 0 0 0)
  have c00 := L.b0.c60
  have f00 := L.b0.fr 0
  have c01 := L.b0.c61
  have f01 := L.b0.fr 1
  have c02 := L.b0.c62
  have f02 := L.b0.fr 2
  have c03 := L.b0.c63
  have f03 := L.b0.fr 3
  have c04 := L.b0.c64
  have f04 := L.b0.fr 4
  have c05 := L.b0.c65
  have f05 := L.b0.fr 5
  (try go_wp2_with fail)
  refine (HA.out _).mono ?_
  rintro e w1 ⟨v1, rfl, id, be⟩
  clear c00 f00 c01 f01 c02 f02 c03 f03 c04 f04 c05 f05
  obtain ⟨A, c, rfl, _, in9⟩ := id.form
  replace L := (L.step be).n in9
  clear be id in9
  have c00 := L.b0.c60
  have f00 := L.b0.fr 0
  have c01 := L.b0.c61
  have f01 := L.b0.fr 1
  have c02 := L.b0.c62
  have f02 := L.b0.fr 2
  have c03 := L.b0.c63
  have f03 := L.b0.fr 3
  have c04 := L.b0.c64
  have f04 := L.b0.fr 4
  have c05 := L.b0.c65
  have f05 := L.b0.fr 5
  (try go_wp2_with fail)
  refine (HB.out _).mono ?_
  rintro e w2 ⟨v2, rfl, id, be⟩
  clear c00 f00 c01 f01 c02 f02 c03 f03 c04 f04 c05 f05
  obtain ⟨B, d, rfl, _, in9⟩ := id.form
  replace L := (L.step be).n in9
  clear be id in9
  have c00 := L.b0.c60
  have f00 := L.b0.fr 0
  have c01 := L.b0.c61
  have f01 := L.b0.fr 1
  have c02 := L.b0.c62
  have f02 := L.b0.fr 2
  have c03 := L.b0.c63
  have f03 := L.b0.fr 3
  have c04 := L.b0.c64
  have f04 := L.b0.fr 4
  have c05 := L.b0.c65
  have f05 := L.b0.fr 5
  (try go_wp2_with fail)
  have LP := L.putI (by omega) (by first | (simp; done) | (simp; omega)) (ng m) A (zl m) c e (ng n) B (zl n) d f
  have k0 := LP.b0.c60
  have k1 := LP.b0.c61
  have k2 := LP.b0.c62
  have k3 := LP.b0.c63
  have k4 := LP.b0.c64
  have k5 := LP.b0.c65
  unfold put6 at k0 k1 k2 k3 k4 k5
  exact bodyPost_ret (v := .agg #[.bool (ng m), .slice A (zl m) c, .int .i64 e, .bool (ng n), .slice B (zl n) d, .int .i64 f]) (by simp [results, Tryz.results22, go_sem, k0, k1, k2, k3, k4, k5]) rfl ⟨_, rfl, isI_n (LP.getN (by simp)) (LP.getN (by simp)), LP.below⟩
set_option maxHeartbeats 4000000 in
theorem works_any (k : Int) (w : World) (hk1 : -9223372036854775808 ≤ k) (hk2 : k ≤ 9223372036854775807) :
    Calls Tryz.prog 11 #[.int .i64 k] w (RetWk w) := by
  obtain ⟨r1, hr1⟩ : ∃ r : Nat, k % 150 = (r : Int) := ⟨(k % 150).toNat, by omega⟩
  have o1 := fun W => mod_any k 150 W (by omega) (by omega) hk1 hk2
  rw [hr1] at o1
  have MO1 := Lib.hid o1
  have bb1 : r1 < 150 := by omega
  clear o1 hr1
  obtain ⟨r2, hr2⟩ : ∃ r : Nat, k % 9 = (r : Int) := ⟨(k % 9).toNat, by omega⟩
  have o2 := fun W => mod_any k 9 W (by omega) (by omega) hk1 hk2
  rw [hr2] at o2
  have MO2 := Lib.hid o2
  have bb2 : r2 < 9 := by omega
  clear o2 hr2
  obtain ⟨r3, hr3⟩ : ∃ r : Nat, k % 3 = (r : Int) := ⟨(k % 3).toNat, by omega⟩
  have o3 := fun W => mod_any k 3 W (by omega) (by omega) hk1 hk2
  rw [hr3] at o3
  have MO3 := Lib.hid o3
  have bb3 : r3 < 3 := by omega
  clear o3 hr3
  have ww : IntKind.i64.wrap (4095 + (r3 : Int)) = 4095 + (r3 : Int) := by rw [IntKind.wrap_i64]; omega
  go_enter Tryz.func11, Tryz.ntmps11
  go_wp2_with fail
  refine (MO1.out _).mono ?_
  rintro e9 w' ⟨rfl, rfl⟩
  go_wp2_with fail
  refine (MO2.out _).mono ?_
  rintro e9 w' ⟨rfl, rfl⟩
  go_wp2_with fail
  refine (MO3.out _).mono ?_
  rintro e9 w' ⟨rfl, rfl⟩
  have L := (Lq.mk0 w).var w.heap.size rfl 3 #[.int .i64 (r1 : Int), .int .i64 (r2 : Int), .int .i64 k, .int .i64 (4095 + (r3 : Int))] (plainI4 _ _ _ _)
  go_wp2_with fail
  go_ret
  refine ⟨_, _, _, _, _, rfl, L.b0, ?_, L.below⟩
  intro N hN
  simp only [List.mem_cons, List.not_mem_nil, or_false] at hN
  rcases hN with rfl | rfl | rfl | rfl <;> omega
end Go.Proofs.YtoobcngbnjeddaaGreatDoor
