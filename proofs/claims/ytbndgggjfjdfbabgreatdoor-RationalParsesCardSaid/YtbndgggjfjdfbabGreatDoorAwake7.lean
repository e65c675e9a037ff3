/- The sanity check of layer 7: the examples of chapter 7 hold. -/
import Derived.Test.YtbndgggjfjdfbabGreatDoorRatQ
import Derived.Test.YtbndgggjfjdfbabGreatDoorRatT2
import Derived.Test.YtbndgggjfjdfbabGreatDoorRefRatC
import Derived.Deep.RegionHeld3
import Derived.Deep.DrawnRows
namespace Go.Proofs.YtbndgggjfjdfbabGreatDoor
open Go.RowKit
set_option linter.unusedVariables false
set_option linter.unusedSimpArgs false
set_option maxRecDepth 100000
attribute [local go_sem ↓] Go.wp_at_zero Go.wp_at_succ

theorem rd_125 : rd 125 = [53, 50, 49] := by rw [rd_pos (by omega), rd_pos (by omega), rd_pos (by omega), rd_zero]
theorem pt_125 : pt (dd (25 * (10 ^ max 1 0 / (2 ^ 1 * 5 ^ 0)))) (max 1 0) = [49, 50, 46, 53] := by
  have e : 25 * (10 ^ max 1 0 / (2 ^ 1 * 5 ^ 0)) = 125 := rfl
  rw [e, dd_pos (by omega), rd_125]; rfl
theorem parse_c7 (l : List Nat) (a : Array UInt8) (w : World) (hb : Byt l) (hl : l.length ≤ 1000000) (ha : (l.map UInt8.ofNat).toArray = a) (h2 : errD l = 6) :
    Calls Tryz.prog 22 #[.string ⟨a⟩] w (RetPE w 0 0 6) := by
  subst ha
  have h := pparse_any l w hb hl
  unfold numD denD at h
  rw [h2, if_neg (by decide), if_neg (by decide)] at h
  exact h
theorem sq_known {a r : Nat} (h : r * r = a) (hr : 0 < r) : sqB a = true ∧ sqQ a = r := by
  have e : rt 2 a = r := by
    refine rt_unique (by omega) ?_ ?_
    · rw [Nat.pow_two]; exact Nat.le_of_eq h
    · rw [Nat.pow_two, ← h]
      have : (r + 1) * (r + 1) = r * r + (2 * r + 1) := by rw [Nat.add_mul, Nat.mul_add]; omega
      omega
  unfold sqB sqQ
  rw [e, h]
  exact ⟨decide_eq_true rfl, if_pos rfl⟩
theorem small7 {n : Nat} (h : n < 4294967296) (k : Nat) (hk : 1 ≤ k) : len n ≤ k := Nat.le_trans (len_le1 h) hk

set_option maxHeartbeats 4000000 in
theorem awake7_any (w : World) (hT : Tab w) :
    Calls Tryz.prog 6 #[] w (RetB w true) := by
  have M1 : ∀ v u W, IsZ W v 6 → IsZ W u (-4) → Calls Tryz.prog 9 #[v, u] W (RetPE W (-3) 2 0) := fun v u W h1 h2 => by
    have h := pmake_any 6 (-4) v u W h1 h2 (small7 (by decide) _ (by omega)) (small7 (by decide) _ (by omega)) (by decide)
    have e1 : (Rat.divInt 6 (-4)).num = (-3) := by rw [(divInt_pair 6 (-4) (by decide)).1]; rfl
    have e2 : (Rat.divInt 6 (-4)).den = 2 := by rw [(divInt_pair 6 (-4) (by decide)).2]; rfl
    rw [e1, e2] at h
    exact h
  replace M1 := Lib.hid M1
  have M2 : ∀ v u W, IsZ W v 25 → IsZ W u 2 → Calls Tryz.prog 9 #[v, u] W (RetPE W 25 2 0) := fun v u W h1 h2 => by
    have h := pmake_any 25 2 v u W h1 h2 (small7 (by decide) _ (by omega)) (small7 (by decide) _ (by omega)) (by decide)
    have e1 : (Rat.divInt 25 2).num = 25 := by rw [(divInt_pair 25 2 (by decide)).1]; rfl
    have e2 : (Rat.divInt 25 2).den = 2 := by rw [(divInt_pair 25 2 (by decide)).2]; rfl
    rw [e1, e2] at h
    exact h
  replace M2 := Lib.hid M2
  have M3 : ∀ v u W, IsZ W v 9 → IsZ W u 4 → Calls Tryz.prog 9 #[v, u] W (RetPE W 9 4 0) := fun v u W h1 h2 => by
    have h := pmake_any 9 4 v u W h1 h2 (small7 (by decide) _ (by omega)) (small7 (by decide) _ (by omega)) (by decide)
    have e1 : (Rat.divInt 9 4).num = 9 := by rw [(divInt_pair 9 4 (by decide)).1]; rfl
    have e2 : (Rat.divInt 9 4).den = 4 := by rw [(divInt_pair 9 4 (by decide)).2]; rfl
    rw [e1, e2] at h
    exact h
  replace M3 := Lib.hid M3
  have HD : ∀ v W, IsP W v 25 2 → Tab W → Calls Tryz.prog 20 #[v] W (RetSB W [49, 50, 46, 53] true) := fun v W h h2 => by
    have := pdec_yes 25 2 1 0 v W h (small7 (by decide) _ (by omega)) (small7 (by decide) _ (by omega)) (by decide) h2 rfl
    rw [show (25 : Int).natAbs = 25 from rfl, pt_125] at this
    exact this
  replace HD := Lib.hid HD
  have HP1 := Lib.hid (fun W => parse_c7 [48, 46, 53, 48] #[48, 46, 53, 48] W (by unfold Byt; decide) (by decide) rfl (by decide))
  have HP2 := Lib.hid (fun W => parse_c7 [46, 53] #[46, 53] W (by unfold Byt; decide) (by decide) rfl (by decide))
  have HQ : ∀ v W, IsP W v 9 4 → Calls Tryz.prog 25 #[v] W (RetPB W 3 2 true) := fun v W h => by
    have h1 := sq_known (a := 9) (r := 3) rfl (by omega)
    have h2 := sq_known (a := 4) (r := 2) rfl (by omega)
    have := psqrt_yes 9 4 v W h (small7 (by decide) _ (by omega)) (small7 (by decide) _ (by omega)) (by decide) h1.1 h2.1
    rw [show (9 : Int).natAbs = 9 from rfl, h1.2, h2.2] at this
    exact this
  replace HQ := Lib.hid HQ
  have HN := Lib.hid (fun v W h => rneg7_any 3 2 v W h (small7 (by decide) _ (by omega)))
  have HS := Lib.hid (fun v u W h1 h2 => same7_yes (-3) 2 v u W h1 h2)
  have q1 : ((str [49, 50, 46, 53]).toList == [49, 50, 46, 53]) = true := by rw [str_toList]; rfl
  have HT := Lib.hid (fun W (hW : Below w.heap.size w W) => hT.mono hW)
  clear hT
  go_enter Tryz.func6, Tryz.ntmps6
  go_wp2_with fail
  have L := Lq.mk0 w
  refine (zof_any 6 _ (by omega) (by omega)).mono ?_
  rintro e w1 ⟨v1, rfl, iz, be⟩
  replace L := (L.step be).z iz
  clear iz be
  go_wp2_with fail
  refine (zof_any (-4) _ (by omega) (by omega)).mono ?_
  rintro e w2 ⟨v2, rfl, iz, be⟩
  replace L := (L.step be).z iz
  clear iz be
  go_wp2_with fail
  refine (M1.out _ _ _ (L.getZ (by simp)) (L.getZ (by simp))).mono ?_
  rintro e w3 ⟨v3, rfl, iq, be⟩
  replace L := (L.step be).q iq
  obtain ⟨A3, c3, B3, d3, rfl, _, _, _⟩ := iq.form
  clear iq be
  replace L := L.varQ w3.heap.size rfl (ng (-3)) A3 B3 (zl (-3)) c3 (len 2) d3
  go_wp2_with fail
  obtain ⟨g1, hg⟩ : ∃ g, w3.heap.size = g := ⟨_, rfl⟩
  rw [hg] at L ⊢
  clear hg
  refine (zof_any 25 _ (by omega) (by omega)).mono ?_
  rintro e w4 ⟨v4, rfl, iz, be⟩
  replace L := (L.step be).z iz
  clear iz be
  go_wp2_with fail
  refine (zof_any 2 _ (by omega) (by omega)).mono ?_
  rintro e w5 ⟨v5, rfl, iz, be⟩
  replace L := (L.step be).z iz
  clear iz be
  go_wp2_with fail
  refine (M2.out _ _ _ (L.getZ (by simp)) (L.getZ (by simp))).mono ?_
  rintro e w6 ⟨v6, rfl, iq, be⟩
  replace L := (L.step be).q iq
  obtain ⟨A6, c6, B6, d6, rfl, _, _, _⟩ := iq.form
  clear iq be
  replace L := L.varQ w6.heap.size rfl (ng 25) A6 B6 (zl 25) c6 (len 2) d6
  have k0 := L.b0.c30
  have k1 := L.b0.c31
  have k2 := L.b0.c32
  go_wp2_with fail
  obtain ⟨g2, hg⟩ : ∃ g, w6.heap.size = g := ⟨_, rfl⟩
  rw [hg] at L k0 k1 k2 ⊢
  clear hg
  refine (HD.out _ _ (L.getQ (by simp)) (HT.out _ L.below)).mono ?_
  rintro e w7 ⟨rfl, be⟩
  replace L := L.step be
  clear be k0 k1 k2
  go_wp2_with fail
  refine (HP1.out _).mono ?_
  rintro e w8 ⟨v8, rfl, iq, be⟩
  replace L := (L.step be).q iq
  obtain ⟨A8, c8, B8, d8, rfl, _, _, _⟩ := iq.form
  clear iq be
  replace L := L.varQ w8.heap.size rfl (ng 0) A8 B8 (zl 0) c8 (len 0) d8
  go_wp2_with fail
  obtain ⟨g3, hg⟩ : ∃ g, w8.heap.size = g := ⟨_, rfl⟩
  rw [hg] at L ⊢
  clear hg
  refine (HP2.out _).mono ?_
  rintro e w9 ⟨v9, rfl, iq, be⟩
  replace L := (L.step be).q iq
  obtain ⟨A9, c9, B9, d9, rfl, _, _, _⟩ := iq.form
  clear iq be
  replace L := L.varQ w9.heap.size rfl (ng 0) A9 B9 (zl 0) c9 (len 0) d9
  go_wp2_with fail
  obtain ⟨g4, hg⟩ : ∃ g, w9.heap.size = g := ⟨_, rfl⟩
  rw [hg] at L ⊢
  clear hg
  refine (zof_any 9 _ (by omega) (by omega)).mono ?_
  rintro e w10 ⟨v10, rfl, iz, be⟩
  replace L := (L.step be).z iz
  clear iz be
  go_wp2_with fail
  refine (zof_any 4 _ (by omega) (by omega)).mono ?_
  rintro e w11 ⟨v11, rfl, iz, be⟩
  replace L := (L.step be).z iz
  clear iz be
  go_wp2_with fail
  refine (M3.out _ _ _ (L.getZ (by simp)) (L.getZ (by simp))).mono ?_
  rintro e w12 ⟨v12, rfl, iq, be⟩
  replace L := (L.step be).q iq
  obtain ⟨A12, c12, B12, d12, rfl, _, _, _⟩ := iq.form
  clear iq be
  replace L := L.varQ w12.heap.size rfl (ng 9) A12 B12 (zl 9) c12 (len 4) d12
  have k0 := L.b0.c30
  have k1 := L.b0.c31
  have k2 := L.b0.c32
  go_wp2_with fail
  obtain ⟨g5, hg⟩ : ∃ g, w12.heap.size = g := ⟨_, rfl⟩
  rw [hg] at L k0 k1 k2 ⊢
  clear hg
  refine (HQ.out _ _ (L.getQ (by simp))).mono ?_
  rintro e w13 ⟨v13, rfl, iq, be⟩
  replace L := (L.step be).q iq
  obtain ⟨A13, c13, B13, d13, rfl, _, _, _⟩ := iq.form
  clear iq be k0 k1 k2
  replace L := L.varQ w13.heap.size rfl (ng 3) A13 B13 (zl 3) c13 (len 2) d13
  go_wp2_with fail
  obtain ⟨g6, hg⟩ : ∃ g, w13.heap.size = g := ⟨_, rfl⟩
  rw [hg] at L ⊢
  clear hg
  replace L := L.drew
  have c00 := L.b0.c30
  have c01 := L.b0.c31
  have c02 := L.b0.c32
  have c50 := L.tl.tl.tl.tl.tl.b0.c30
  have c51 := L.tl.tl.tl.tl.tl.b0.c31
  have c52 := L.tl.tl.tl.tl.tl.b0.c32
  go_region_held3 (fun w' => w'.cell? ⟨g6, 0, none⟩ = some (.bool (ng 3)) ∧ w'.cell? ⟨g6, 1, none⟩ = some (.slice A13 (zl 3) c13) ∧ w'.cell? ⟨g6, 2, none⟩ = some (.slice B13 (len 2) d13) ∧ w'.cell? ⟨g1, 0, none⟩ = some (.bool (ng (-3))) ∧ w'.cell? ⟨g1, 1, none⟩ = some (.slice A3 (zl (-3)) c3) ∧ w'.cell? ⟨g1, 2, none⟩ = some (.slice B3 (len 2) d3)) (first | (with_reducible exact ⟨L.b0.c30, L.b0.c31, L.b0.c32, L.tl.tl.tl.tl.tl.b0.c30, L.tl.tl.tl.tl.tl.b0.c31, L.tl.tl.tl.tl.tl.b0.c32⟩) | exact ⟨L.b0.c30, L.b0.c31, L.b0.c32, L.tl.tl.tl.tl.tl.b0.c30, L.tl.tl.tl.tl.tl.b0.c31, L.tl.tl.tl.tl.tl.b0.c32⟩) (first | (go_at_call 26; (with_reducible refine (HN.out _ _ ?_ ).mono ?_); (· (refine L.getQ ?_; (repeat (first | (with_reducible exact List.mem_cons_self) | apply List.mem_cons_of_mem)))); rintro e wh ⟨vh, rfl, iq, be⟩; replace L := (L.step be).q iq; clear be iq) | (go_at_call 23; (with_reducible refine (HS.out _ _ _ ?_ ?_ ).mono ?_); (· (refine L.getQ ?_; (repeat (first | (with_reducible exact List.mem_cons_self) | apply List.mem_cons_of_mem)))); (· (refine L.getQ ?_; (repeat (first | (with_reducible exact List.mem_cons_self) | apply List.mem_cons_of_mem)))); rintro e wh ⟨rfl, be⟩; replace L := L.step be; clear be))
  clear c00 c01 c02 c50 c51 c52
  go_wp2_with fail
  go_ret
  exact ⟨rfl, L.below⟩

end Go.Proofs.YtbndgggjfjdfbabGreatDoor
