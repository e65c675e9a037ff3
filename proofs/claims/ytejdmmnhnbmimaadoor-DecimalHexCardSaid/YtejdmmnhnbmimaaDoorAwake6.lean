/- The sanity check of layer 6: the examples of chapter 6 hold. -/
import Derived.Test.YtejdmmnhnbmimaaDoorForm
import Derived.Test.YtejdmmnhnbmimaaDoorHexA
namespace Go.Proofs.YtejdmmnhnbmimaaDoor
open Go.RowKit
set_option linter.unusedVariables false
set_option linter.unusedSimpArgs false
set_option maxRecDepth 100000
attribute [local go_sem ↓] Go.wp_at_zero Go.wp_at_succ

theorem rd_12 : rd 12 = [50, 49] := by rw [rd_pos (by omega), rd_pos (by omega), rd_zero]
theorem fmt_12 : fmt (-12) = [45, 49, 50] := by
  rw [fmt_neg (by omega)]
  have e : dd (-12 : Int).natAbs = dd 12 := rfl
  rw [e, dd_pos (by omega), rd_12]; rfl
theorem hexT_255 : hexT 255 = [48, 48, 48, 48, 48, 48, 48, 48, 48, 48, 48, 48, 48, 48, 102, 102] := by decide
theorem parse_c (l : List Nat) (a : Array UInt8) (w : World) (hb : Byt l) (hl : l.length ≤ 1000000) (ha : (l.map UInt8.ofNat).toArray = a) (z er : Int) (h1 : valP l = z) (h2 : errP l = er) :
    Calls Tryd.prog 15 #[.string ⟨a⟩] w (RetZE w z er) := by
  subst ha; subst h1; subst h2
  exact parse_any l w hb hl

set_option maxHeartbeats 1000000 in
theorem awake6_any (w : World) :
    Calls Tryd.prog 9 #[] w (RetB w true) := by
  have H1 := Lib.hid (fun W => parse_c [45, 48] #[45, 48] W (by unfold Byt; decide) (by decide) rfl 0 6 (by decide) (by decide))
  have H2 := Lib.hid (fun W => parse_c [48, 49] #[48, 49] W (by unfold Byt; decide) (by decide) rfl 0 6 (by decide) (by decide))
  have H3 := Lib.hid (fun W => zof_any (-12) W (by omega) (by omega))
  have h4 := fun v W h => format_any (-12) v W h (Nat.le_trans (len_num (x := 12) (n := 2) (by decide)) (by omega))
  rw [fmt_12] at h4
  have H4 := Lib.hid h4
  have h5 := fun W => hex_any 255 W (by omega)
  rw [hexT_255] at h5
  have H5 := Lib.hid h5
  have q1 : ((str [45, 49, 50]).toList == [45, 49, 50]) = true := by rw [str_toList]; rfl
  have q2 : ((str [48, 48, 48, 48, 48, 48, 48, 48, 48, 48, 48, 48, 48, 48, 102, 102]).toList == [48, 48, 48, 48, 48, 48, 48, 48, 48, 48, 48, 48, 48, 48, 102, 102]) = true := by rw [str_toList]; rfl
  clear h4 h5
  go_enter Tryd.func9, Tryd.ntmps9
  go_wp2_with fail
  have L := Lz.mk0 w
  refine (H1.out _).mono ?_
  rintro e w1 ⟨v1, rfl, iz, be⟩
  replace L := L.step be
  obtain ⟨A1, c1, rfl, _⟩ := iz.form
  clear be iz
  replace L := L.box w1.heap.size rfl (ng 0) A1 (zl 0) c1
  go_wp2_with fail
  obtain ⟨g1, hg1⟩ : ∃ g, w1.heap.size = g := ⟨_, rfl⟩
  rw [hg1] at L ⊢
  clear hg1
  refine (H2.out _).mono ?_
  rintro e w2 ⟨v2, rfl, iz, be⟩
  replace L := L.step be
  obtain ⟨A2, c2, rfl, _⟩ := iz.form
  clear be iz
  replace L := L.box w2.heap.size rfl (ng 0) A2 (zl 0) c2
  go_wp2_with fail
  obtain ⟨g2, hg2⟩ : ∃ g, w2.heap.size = g := ⟨_, rfl⟩
  rw [hg2] at L ⊢
  clear hg2
  refine (H3.out _).mono ?_
  rintro e w3 ⟨v3, rfl, iz, be⟩
  replace L := (L.step be).z iz
  clear be iz
  go_wp2_with fail
  refine (H4.out _ _ L.hz).mono ?_
  rintro e w4 ⟨rfl, be⟩
  replace L := L.step be
  go_wp2_with fail
  refine (H5.out _).mono ?_
  rintro e w5 ⟨rfl, be⟩
  replace L := L.step be
  go_wp2_with fail
  go_ret
  exact ⟨rfl, L.below⟩

end Go.Proofs.YtejdmmnhnbmimaaDoor
