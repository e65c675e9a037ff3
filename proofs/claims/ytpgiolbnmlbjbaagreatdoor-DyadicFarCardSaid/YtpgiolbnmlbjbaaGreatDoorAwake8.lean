/- The sanity check of layer 8: the examples of chapter 8 hold. -/
import Derived.Test.YtpgiolbnmlbjbaaGreatDoorDyPB
import Derived.Test.YtpgiolbnmlbjbaaGreatDoorDyPE
import Derived.Test.YtpgiolbnmlbjbaaGreatDoorDyPF
import Derived.Test.YtpgiolbnmlbjbaaGreatDoorRefDyE
import Derived.Test.YtpgiolbnmlbjbaaGreatDoorDyMath2
import Derived.Deep.RegionHeld3
import Derived.Deep.DrawnRows
namespace Go.Proofs.YtpgiolbnmlbjbaaGreatDoor
open Go.RowKit
set_option linter.unusedVariables false
set_option linter.unusedSimpArgs false
set_option maxRecDepth 100000
attribute [local go_sem ↓] Go.wp_at_zero Go.wp_at_succ

theorem mk_val {m e : Int} {z : Nat} {M : Int} (h : mkR m e = 0) (hm : m ≠ 0) (hz : tz m.natAbs = z) (ho : oddM m = M) : mkM m e = M ∧ mkE m e = e + (z : Int) := by
  unfold mkM mkE
  rw [h, if_pos rfl, if_neg hm, if_pos rfl, ho]
  refine ⟨rfl, ?_⟩
  unfold oddE
  rw [hz]
theorem small8 {m : Int} (h : m.natAbs < 4294967296) : zl m ≤ 1900 := Nat.le_trans (len_le1 h) (by omega)
theorem mk_12 : mkR 12 (-1) = 0 ∧ mkM 12 (-1) = 3 ∧ mkE 12 (-1) = 1 := by
  have h := mk_fits (m := 12) (e := -1) (small8 (by decide)) (by omega) (by omega)
  have ho : oddM ((3 : Int) * 2 ^ 2) = 3 := odd_shl (by decide) 2
  obtain ⟨e1, e2⟩ := mk_val h (by decide) (show tz (12 : Int).natAbs = 2 from tz_mul 2 1) ho
  exact ⟨h, e1, e2⟩
theorem mk_m6 : mkM (-6) 0 = -3 ∧ mkE (-6) 0 = 1 := by
  have h := mk_fits (m := -6) (e := 0) (small8 (by decide)) (by omega) (by omega)
  have ho : oddM ((-3 : Int) * 2 ^ 1) = -3 := odd_shl (by decide) 1
  exact mk_val h (by decide) (show tz (-6 : Int).natAbs = 1 from tz_mul 1 1) ho
theorem mk_4 : mkM 4 0 = 1 ∧ mkE 4 0 = 2 := by
  have h := mk_fits (m := 4) (e := 0) (small8 (by decide)) (by omega) (by omega)
  have ho : oddM ((1 : Int) * 2 ^ 2) = 1 := odd_shl (by decide) 2
  exact mk_val h (by decide) (show tz (4 : Int).natAbs = 2 from tz_mul 2 0) ho
theorem mk_3 : mkM 3 0 = 3 ∧ mkE 3 0 = 0 := by
  have h := mk_fits (m := 3) (e := 0) (small8 (by decide)) (by omega) (by omega)
  have ho : oddM ((3 : Int) * 2 ^ 0) = 3 := odd_shl (by decide) 0
  exact mk_val h (by decide) (show tz (3 : Int).natAbs = 0 from tz_mul 0 1) ho
theorem top_12 : topZ 1 2 = 3 := by
  unfold topZ
  rw [if_neg (by decide), show blen (1 : Int).natAbs = 1 from blen_of (n := 0) (by decide) (by decide)]; rfl
theorem top_30 : topZ 3 0 = 2 := by
  unfold topZ
  rw [if_neg (by decide), show blen (3 : Int).natAbs = 2 from blen_of (n := 1) (by decide) (by decide)]; rfl
theorem fmt_m3 : fmtD (-3) 1 = [45, 51, 112, 49] := by
  have r3 : rd 3 = [51] := by rw [rd_pos (by omega), show 3 / 10 = 0 from rfl, rd_zero]
  have r1 : rd 1 = [49] := by rw [rd_pos (by omega), show 1 / 10 = 0 from rfl, rd_zero]
  unfold fmtD
  rw [fmt_neg (by omega), fmt_nn (by omega), dd_pos (by decide), dd_pos (by decide), show (-3 : Int).natAbs = 3 from rfl, show (1 : Int).natAbs = 1 from rfl, r3, r1]
  rfl
theorem err_60 : errD8 [54, 112, 48] = 6 := by decide
theorem err_01 : errD8 [48, 112, 49] = 6 := by decide
theorem parse_c8 (l : List Nat) (a : Array UInt8) (w : World) (hb : Byt l) (hl : l.length ≤ 1000000) (ha : (l.map UInt8.ofNat).toArray = a) (h2 : errD8 l = 6) :
    Calls Tryz.prog 46 #[.string ⟨a⟩] w (RetDE w 0 0 6) := by
  subst ha
  have h := dparse_any l w hb hl
  unfold valM8 valE8 at h
  rw [h2, if_neg (by decide), if_neg (by decide)] at h
  exact h

set_option maxHeartbeats 4000000 in
theorem awake8_any (w : World) (hT : Tab w) (hP : Pow10 w) :
    Calls Tryz.prog 10 #[] w (RetB w true) := by
  have HT := Lib.hid (fun W (hW : Below w.heap.size w W) => hT.mono hW)
  have HP := Lib.hid (fun W (hW : Below w.heap.size w W) => hP.mono hW)
  have m1 := fun v W h (hW : Below w.heap.size w W) => dmake_any 12 (-1) v W h (Nat.le_trans (small8 (by decide)) (by omega)) (hT.mono hW)
  rw [mk_12.1, mk_12.2.1, mk_12.2.2] at m1
  have M1 := Lib.hid m1
  have HP1 := Lib.hid (fun W => parse_c8 [54, 112, 48] #[54, 112, 48] W (by unfold Byt; decide) (by decide) rfl err_60)
  have HP2 := Lib.hid (fun W => parse_c8 [48, 112, 49] #[48, 112, 49] W (by unfold Byt; decide) (by decide) rfl err_01)
  have o1 := fun W (hW : Below w.heap.size w W) => dof_any (-6) W (by omega) (by omega) (hT.mono hW)
  rw [mk_m6.1, mk_m6.2] at o1
  have O1 := Lib.hid o1
  have o2 := fun W (hW : Below w.heap.size w W) => dof_any 4 W (by omega) (by omega) (hT.mono hW)
  rw [mk_4.1, mk_4.2] at o2
  have O2 := Lib.hid o2
  have o3 := fun W (hW : Below w.heap.size w W) => dof_any 3 W (by omega) (by omega) (hT.mono hW)
  rw [mk_3.1, mk_3.2] at o3
  have O3 := Lib.hid o3
  have f1 := fun v W h (hW : Below w.heap.size w W) => dformat_any (-3) 1 v W h (Nat.le_trans (small8 (by decide)) (by omega)) (by omega) (hP.mono hW)
  rw [fmt_m3] at f1
  have F1 := Lib.hid f1
  have t1 := fun v W h => dtop_any 1 2 v W h (Nat.le_trans (small8 (by decide)) (by omega)) (by omega) (by decide)
  rw [top_12] at t1
  have T1 := Lib.hid t1
  have t2 := fun v W h => dtop_any 3 0 v W h (Nat.le_trans (small8 (by decide)) (by omega)) (by omega) (by decide)
  rw [top_30] at t2
  have T2 := Lib.hid t2
  have HR := Lib.hid (fun W => rzof_any 3 W (by omega) (by omega))
  have HS := Lib.hid (fun v u W h1 h2 => zsame_yes 3 3 v u W h1 h2 rfl)
  have q1 : ((str [45, 51, 112, 49]).toList == [45, 51, 112, 49]) = true := by rw [str_toList]; rfl
  have q2 : ((str [45, 51, 112, 49]) == (⟨#[45, 51, 112, 49]⟩ : ByteArray)) = true := rfl
  clear hT hP m1 o1 o2 o3 f1 t1 t2
  go_enter Tryz.func10, Tryz.ntmps10
  go_wp2_with fail
  have L := Lq.mk0 w
  refine (zof_any 12 _ (by omega) (by omega)).mono ?_
  rintro e w1 ⟨v1, rfl, iz, be⟩
  replace L := (L.step be).z iz
  clear iz be
  go_wp2_with fail
  refine (M1.out _ _ (L.getZ (by simp)) L.below).mono ?_
  rintro e w2 ⟨v2, rfl, id, be⟩
  obtain ⟨A2, c2, rfl, iz9, in9⟩ := id.form
  replace L := ((L.step be).n in9).z iz9
  clear be id in9 iz9
  replace L := L.varD w2.heap.size rfl (ng 3) A2 (zl 3) c2 1
  go_wp2_with fail
  obtain ⟨g1, hg⟩ : ∃ g, w2.heap.size = g := ⟨_, rfl⟩
  rw [hg] at L ⊢
  clear hg
  refine (HP1.out _).mono ?_
  rintro e w3 ⟨v3, rfl, id, be⟩
  obtain ⟨A3, c3, rfl, iz9, in9⟩ := id.form
  replace L := ((L.step be).n in9).z iz9
  clear be id in9 iz9
  replace L := L.varD w3.heap.size rfl (ng 0) A3 (zl 0) c3 0
  go_wp2_with fail
  obtain ⟨g2, hg⟩ : ∃ g, w3.heap.size = g := ⟨_, rfl⟩
  rw [hg] at L ⊢
  clear hg
  refine (HP2.out _).mono ?_
  rintro e w4 ⟨v4, rfl, id, be⟩
  obtain ⟨A4, c4, rfl, iz9, in9⟩ := id.form
  replace L := ((L.step be).n in9).z iz9
  clear be id in9 iz9
  replace L := L.varD w4.heap.size rfl (ng 0) A4 (zl 0) c4 0
  go_wp2_with fail
  obtain ⟨g3, hg⟩ : ∃ g, w4.heap.size = g := ⟨_, rfl⟩
  rw [hg] at L ⊢
  clear hg
  replace L := L.drew
  have c20 := L.tl.tl.b0.c30
  have c21 := L.tl.tl.b0.c31
  have c22 := L.tl.tl.b0.c32
  go_region_held3 (fun w' => w'.cell? ⟨g1, 0, none⟩ = some (.bool (ng 3)) ∧ w'.cell? ⟨g1, 1, none⟩ = some (.slice A2 (zl 3) c2) ∧ w'.cell? ⟨g1, 2, none⟩ = some (.int .i64 1)) (first | (with_reducible exact ⟨L.tl.tl.b0.c30, L.tl.tl.b0.c31, L.tl.tl.b0.c32⟩) | exact ⟨L.tl.tl.b0.c30, L.tl.tl.b0.c31, L.tl.tl.b0.c32⟩) (first | (go_at_call 52; (with_reducible refine (HR.out _ ).mono ?_); rintro e wh ⟨vh, rfl, iz, be⟩; replace L := (L.step be).z iz; clear be iz) | (go_at_call 51; (with_reducible refine (HS.out _ _ _ ?_ ?_ ).mono ?_); (· (refine L.getZ ?_; (repeat (first | (with_reducible exact List.mem_cons_self) | apply List.mem_cons_of_mem)))); (· (refine L.getZ ?_; (repeat (first | (with_reducible exact List.mem_cons_self) | apply List.mem_cons_of_mem)))); rintro e wh ⟨rfl, be⟩; replace L := L.step be; clear be) | (go_at_call 19; (with_reducible refine (O1.out _ ?_ ).mono ?_); (· exact L.below); rintro e wh ⟨vh, rfl, id, be⟩; obtain ⟨A9, c9, rfl, _, in9⟩ := id.form; replace L := (L.step be).n in9; clear be id in9) | (go_at_call 19; (with_reducible refine (O2.out _ ?_ ).mono ?_); (· exact L.below); rintro e wh ⟨vh, rfl, id, be⟩; obtain ⟨A9, c9, rfl, _, in9⟩ := id.form; replace L := (L.step be).n in9; clear be id in9) | (go_at_call 19; (with_reducible refine (O3.out _ ?_ ).mono ?_); (· exact L.below); rintro e wh ⟨vh, rfl, id, be⟩; obtain ⟨A9, c9, rfl, _, in9⟩ := id.form; replace L := (L.step be).n in9; clear be id in9) | (go_at_call 47; (with_reducible refine (F1.out _ _ ?_ ?_ ).mono ?_); (· (refine isD_n (L.getN ?_); (repeat (first | (with_reducible exact List.mem_cons_self) | apply List.mem_cons_of_mem)))); (· exact L.below); rintro e wh ⟨rfl, be⟩; replace L := L.step be; clear be) | (go_at_call 40; (with_reducible refine (T1.out _ _ ?_ ).mono ?_); (· (refine isD_n (L.getN ?_); (repeat (first | (with_reducible exact List.mem_cons_self) | apply List.mem_cons_of_mem)))); rintro e wh ⟨rfl, be⟩; replace L := L.step be; clear be) | (go_at_call 40; (with_reducible refine (T2.out _ _ ?_ ).mono ?_); (· (refine isD_n (L.getN ?_); (repeat (first | (with_reducible exact List.mem_cons_self) | apply List.mem_cons_of_mem)))); rintro e wh ⟨rfl, be⟩; replace L := L.step be; clear be))
  clear c20 c21 c22
  go_wp2_with fail
  go_ret
  exact ⟨rfl, L.below⟩

end Go.Proofs.YtpgiolbnmlbjbaaGreatDoor
