/- The sanity check of layer 10: the examples of chapter 10 hold. -/
import Derived.Test.YtgcmdlannbobgaaDoorIvP
import Derived.Test.YtgcmdlannbobgaaDoorMillIv
import Derived.Deep.RegionHeld3
import Derived.Deep.DrawnRows
namespace Go.Proofs.YtgcmdlannbobgaaDoor
open Go.RowKit
set_option linter.unusedVariables false
set_option linter.unusedSimpArgs false
set_option maxRecDepth 100000
attribute [local go_sem ↓] Go.wp_at_zero Go.wp_at_succ

theorem mk_val10 {m e : Int} {z : Nat} {M : Int} (h : mkR m e = 0) (hm : m ≠ 0) (hz : tz m.natAbs = z) (ho : oddM m = M) : mkM m e = M ∧ mkE m e = e + (z : Int) := by
  unfold mkM mkE
  rw [h, if_pos rfl, if_neg hm, if_pos rfl, ho]
  refine ⟨rfl, ?_⟩
  unfold oddE
  rw [hz]
theorem small10 {m : Int} (h : m.natAbs < 4294967296) : zl m ≤ 1900 := Nat.le_trans (len_le1 h) (by omega)
theorem mk_odd10 {M : Int} {z : Nat} {m e : Int} (hm : M * 2 ^ z = m) (ho : M.natAbs % 2 = 1) (hs : m.natAbs < 4294967296) (h1 : -4000 ≤ e) (h2 : e ≤ 4000) : mkM m e = M ∧ mkE m e = e + (z : Int) := by
  have h := mk_fits (m := m) (e := e) (small10 hs) h1 h2
  have hm0 : m ≠ 0 := by
    have hM : M ≠ 0 := fun h0 => by rw [h0] at ho; exact absurd ho (by decide)
    rw [← hm]
    exact Int.mul_ne_zero hM (pow2_ne z)
  have hz : tz m.natAbs = z := by rw [← hm, abs_shl]; exact tz_odd ho z
  have ho2 : oddM m = M := by rw [← hm]; exact odd_shl ho z
  exact mk_val10 h hm0 hz ho2
theorem of_0 : mkM 0 0 = 0 ∧ mkE 0 0 = 0 := by
  have h := mk_fits (m := 0) (e := 0) (small10 (by decide)) (by decide) (by decide)
  unfold mkM mkE
  rw [h, if_pos rfl, if_pos rfl, oddM_zero]
  exact ⟨rfl, rfl⟩
theorem of_1 : mkM 1 0 = 1 ∧ mkE 1 0 = 0 := mk_odd10 (M := 1) (z := 0) (by decide) (by decide) (by decide) (by decide) (by decide)
theorem of_2 : mkM 2 0 = 1 ∧ mkE 2 0 = 1 := mk_odd10 (M := 1) (z := 1) (by decide) (by decide) (by decide) (by decide) (by decide)
theorem of_3 : mkM 3 0 = 3 ∧ mkE 3 0 = 0 := mk_odd10 (M := 3) (z := 0) (by decide) (by decide) (by decide) (by decide) (by decide)
theorem dv_0 : Dv 0 0 := Or.inl ⟨rfl, rfl⟩
theorem dv_1 : Dv 1 0 := Or.inr ⟨by decide, by decide⟩
theorem zl_small {m : Int} (h : m.natAbs < 4294967296) : zl m ≤ 1000 := Nat.le_trans (len_le1 h) (by omega)
theorem zl0 : zl 0 ≤ 1000 := zl_small (by decide)
theorem zl1 : zl 1 ≤ 1000 := zl_small (by decide)
theorem zl3 : zl 3 ≤ 1000 := zl_small (by decide)

set_option maxHeartbeats 4000000 in
theorem awake10_any (w : World) :
    Calls Tryd.prog 6 #[] w (RetB w true) := by
  have o00 := fun W => of10_any 0 0 W (by omega) (by omega)
  rw [of_0.1, of_0.2] at o00
  have O00 := Lib.hid o00
  clear o00
  have o01 := fun W => of10_any 0 1 W (by omega) (by omega)
  rw [of_0.1, of_0.2, of_1.1, of_1.2] at o01
  have O01 := Lib.hid o01
  clear o01
  have o12 := fun W => of10_any 1 2 W (by omega) (by omega)
  rw [of_1.1, of_1.2, of_2.1, of_2.2] at o12
  have O12 := Lib.hid o12
  clear o12
  have o23 := fun W => of10_any 2 3 W (by omega) (by omega)
  rw [of_2.1, of_2.2, of_3.1, of_3.2] at o23
  have O23 := Lib.hid o23
  clear o23
  have o10 := fun W => of10_any 1 0 W (by omega) (by omega)
  rw [of_1.1, of_1.2, of_0.1, of_0.2] at o10
  have O10 := Lib.hid o10
  clear o10
  have s00 : ∀ v W, IsI W v 0 0 0 0 → Calls Tryd.prog 26 #[v] W (fun en w' => en = .returned (.tuple #[.int .i64 0, .bool true]) ∧ Below W.heap.size W w') := fun v W h => i10sign_any 0 0 0 0 v W h zl0 zl0 ⟨by decide, by decide⟩ ⟨by decide, by decide⟩
  have S00 := Lib.hid s00
  clear s00
  have s01 : ∀ v W, IsI W v 0 0 1 0 → Calls Tryd.prog 26 #[v] W (fun en w' => en = .returned (.tuple #[.int .i64 0, .bool false]) ∧ Below W.heap.size W w') := fun v W h => i10sign_any 0 0 1 0 v W h zl0 zl1 ⟨by decide, by decide⟩ ⟨by decide, by decide⟩
  have S01 := Lib.hid s01
  clear s01
  have c12 := fun v u W h1 h2 => i10cmp_any 0 0 1 0 1 0 1 1 v u W h1 h2 zl0 zl1 zl1 zl1 ⟨by decide, by decide⟩ ⟨by decide, by decide⟩ ⟨by decide, by decide⟩ ⟨by decide, by decide⟩
  rw [show icm 0 0 1 0 1 0 1 1 = 0 from by decide] at c12
  have C12 := Lib.hid c12
  clear c12
  have c23 := fun v u W h1 h2 => i10cmp_any 0 0 1 0 1 1 3 0 v u W h1 h2 zl0 zl1 zl1 zl3 ⟨by decide, by decide⟩ ⟨by decide, by decide⟩ ⟨by decide, by decide⟩ ⟨by decide, by decide⟩
  rw [show icm 0 0 1 0 1 1 3 0 = -1 from by decide] at c23
  have C23 := Lib.hid c23
  clear c23
  have y01 := fun v W h => i10valid_any 0 0 1 0 v W h zl0 zl1 ⟨by decide, by decide⟩ ⟨by decide, by decide⟩ dv_0 dv_1
  rw [show decide (dcm 0 0 1 0 ≤ 0) = true from by decide] at y01
  have Y01 := Lib.hid y01
  clear y01
  have y10 := fun v W h => i10valid_any 1 0 0 0 v W h zl1 zl0 ⟨by decide, by decide⟩ ⟨by decide, by decide⟩ dv_1 dv_0
  rw [show decide (dcm 1 0 0 0 ≤ 0) = false from by decide] at y10
  have Y10 := Lib.hid y10
  clear y10
  go_enter Tryd.func6, Tryd.ntmps6
  go_wp2_with fail
  have L := Lq.mk0 w
  (try go_wp2_with fail)
  refine (O00.out _).mono ?_
  rintro e w1 ⟨v1, rfl, ii, be⟩
  obtain ⟨A1, c1, B1, d1, rfl, ia, ib⟩ := ii.form
  replace L := ((L.step be).n ia).n ib
  clear ii be ia ib
  (try go_wp2_with fail)
  refine (S00.out _ _ (isI_n (m := 0) (e := 0) (n := 0) (f := 0) (s := .slice A1 (zl 0) c1) (t := .slice B1 (zl 0) d1) (L.getN (by simp)) (L.getN (by simp)))).mono ?_
  rintro e w2 ⟨rfl, be⟩
  replace L := L.step be
  clear be
  (try go_wp2_with fail)
  refine (O01.out _).mono ?_
  rintro e w3 ⟨v2, rfl, ii, be⟩
  obtain ⟨A2, c2, B2, d2, rfl, ia, ib⟩ := ii.form
  replace L := ((L.step be).n ia).n ib
  clear ii be ia ib
  (try go_wp2_with fail)
  refine (S01.out _ _ (isI_n (m := 0) (e := 0) (n := 1) (f := 0) (s := .slice A2 (zl 0) c2) (t := .slice B2 (zl 1) d2) (L.getN (by simp)) (L.getN (by simp)))).mono ?_
  rintro e w4 ⟨rfl, be⟩
  replace L := L.step be
  clear be
  (try go_wp2_with fail)
  refine (O01.out _).mono ?_
  rintro e w5 ⟨v3, rfl, ii, be⟩
  obtain ⟨A3, c3, B3, d3, rfl, ia, ib⟩ := ii.form
  replace L := ((L.step be).n ia).n ib
  clear ii be ia ib
  (try go_wp2_with fail)
  refine (O12.out _).mono ?_
  rintro e w6 ⟨v4, rfl, ii, be⟩
  obtain ⟨A4, c4, B4, d4, rfl, ia, ib⟩ := ii.form
  replace L := ((L.step be).n ia).n ib
  clear ii be ia ib
  (try go_wp2_with fail)
  refine (C12.out _ _ _ (isI_n (m := 0) (e := 0) (n := 1) (f := 0) (s := .slice A3 (zl 0) c3) (t := .slice B3 (zl 1) d3) (L.getN (by simp)) (L.getN (by simp))) (isI_n (m := 1) (e := 0) (n := 1) (f := 1) (s := .slice A4 (zl 1) c4) (t := .slice B4 (zl 1) d4) (L.getN (by simp)) (L.getN (by simp)))).mono ?_
  rintro e w7 ⟨rfl, be⟩
  replace L := L.step be
  clear be
  (try go_wp2_with fail)
  refine (O01.out _).mono ?_
  rintro e w8 ⟨v5, rfl, ii, be⟩
  obtain ⟨A5, c5, B5, d5, rfl, ia, ib⟩ := ii.form
  replace L := ((L.step be).n ia).n ib
  clear ii be ia ib
  (try go_wp2_with fail)
  refine (O23.out _).mono ?_
  rintro e w9 ⟨v6, rfl, ii, be⟩
  obtain ⟨A6, c6, B6, d6, rfl, ia, ib⟩ := ii.form
  replace L := ((L.step be).n ia).n ib
  clear ii be ia ib
  (try go_wp2_with fail)
  refine (C23.out _ _ _ (isI_n (m := 0) (e := 0) (n := 1) (f := 0) (s := .slice A5 (zl 0) c5) (t := .slice B5 (zl 1) d5) (L.getN (by simp)) (L.getN (by simp))) (isI_n (m := 1) (e := 1) (n := 3) (f := 0) (s := .slice A6 (zl 1) c6) (t := .slice B6 (zl 3) d6) (L.getN (by simp)) (L.getN (by simp)))).mono ?_
  rintro e w10 ⟨rfl, be⟩
  replace L := L.step be
  clear be
  (try go_wp2_with fail)
  refine (O01.out _).mono ?_
  rintro e w11 ⟨v7, rfl, ii, be⟩
  obtain ⟨A7, c7, B7, d7, rfl, ia, ib⟩ := ii.form
  replace L := ((L.step be).n ia).n ib
  clear ii be ia ib
  (try go_wp2_with fail)
  refine (Y01.out _ _ (isI_n (m := 0) (e := 0) (n := 1) (f := 0) (s := .slice A7 (zl 0) c7) (t := .slice B7 (zl 1) d7) (L.getN (by simp)) (L.getN (by simp)))).mono ?_
  rintro e w12 ⟨rfl, be⟩
  replace L := L.step be
  clear be
  (try go_wp2_with fail)
  refine (O10.out _).mono ?_
  rintro e w13 ⟨v8, rfl, ii, be⟩
  obtain ⟨A8, c8, B8, d8, rfl, ia, ib⟩ := ii.form
  replace L := ((L.step be).n ia).n ib
  clear ii be ia ib
  (try go_wp2_with fail)
  refine (Y10.out _ _ (isI_n (m := 1) (e := 0) (n := 0) (f := 0) (s := .slice A8 (zl 1) c8) (t := .slice B8 (zl 0) d8) (L.getN (by simp)) (L.getN (by simp)))).mono ?_
  rintro e w14 ⟨rfl, be⟩
  replace L := L.step be
  clear be
  (try go_wp2_with fail)
  go_ret
  exact ⟨rfl, L.below⟩

end Go.Proofs.YtgcmdlannbobgaaDoor
