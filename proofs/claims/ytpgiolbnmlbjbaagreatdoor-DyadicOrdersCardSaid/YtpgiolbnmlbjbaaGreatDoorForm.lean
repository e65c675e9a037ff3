/- decimal.Format. -/
import Derived.Test.YtpgiolbnmlbjbaaGreatDoorPars
namespace Go.Proofs.YtpgiolbnmlbjbaaGreatDoor
open Go.RowKit
set_option linter.unusedVariables false
set_option linter.unusedSimpArgs false
set_option maxRecDepth 100000
attribute [local go_sem ↓] Go.wp_at_zero Go.wp_at_succ

theorem cat_minus (l : List Nat) : (⟨#[45]⟩ : ByteArray) ++ str l = str (45 :: l) := by
  have e : (⟨#[45]⟩ : ByteArray) = str [45] := rfl
  rw [e, str_append]; rfl

set_option maxHeartbeats 1000000 in
theorem format_any (z : Int) (vz : Value) (w : World) (hz : IsZ w vz z) (hl : zl z ≤ 100000) :
    Calls Tryz.prog 91 #[vz] w (RetS w (fmt z)) := by
  obtain ⟨A, c, rfl, hv⟩ := hz.form
  have hlx : len z.natAbs ≤ 100000 := hl
  have hdl := dd_length hlx
  have HD := Lib.hid (fun W hW => digits_any z.natAbs (.slice A (zl z) c) W hW (by omega))
  have HS := Lib.hid (fun W hW => zsign_any z (.agg #[.bool (ng z), .slice A (zl z) c]) W hW (by omega))
  have L0 := ((Lz.mk0 w).n hv).z hz
  clear hz hv
  have hcat := cat_minus (dd z.natAbs)
  have hsz := str_size (dd z.natAbs)
  obtain ⟨n, hn⟩ : ∃ n, (dd z.natAbs).length = n := ⟨_, rfl⟩
  rw [hn] at hsz hdl
  have hfm : fmt z = if z < 0 then 45 :: dd z.natAbs else dd z.natAbs := rfl
  generalize dd z.natAbs = D at *
  obtain ⟨F, hF⟩ : ∃ F, fmt z = F := ⟨_, rfl⟩
  rw [hF] at hfm ⊢
  have HF := Lib.hid hfm
  clear hF hfm hlx hn
  by_cases h : z < 0
  · rw [if_pos h] at HF
    rw [← HF.out] at hcat
    have hs : cmpI z 0 = -1 := cmpI_lt h
    rw [hs] at HS
    clear hs h
    go_enter Tryz.func91, Tryz.ntmps91
    go_wp2_with fail
    have L := L0.box (w.heap.size) (by simp) (ng z) A (zl z) c
    have c00 := L.b0.c0
    have c01 := L.b0.c1
    have f00 := L.b0.fr 0
    have f01 := L.b0.fr 1
    go_wp2_with fail
    refine (HD.out _ (L.getN (by simp))).mono ?_
    rintro e w1 ⟨rfl, be⟩
    replace L := L.step be
    clear c00 c01 f00 f01 be
    have c00 := L.b0.c0
    have c01 := L.b0.c1
    have f00 := L.b0.fr 0
    have f01 := L.b0.fr 1
    go_wp2_with fail
    refine (HS.out _ (L.getZ (by simp))).mono ?_
    rintro e w2 ⟨rfl, be⟩
    replace L := L.step be
    go_wp2_with fail
    go_ret
    exact ⟨rfl, L.below⟩
  · rw [if_neg h] at HF
    have hs : cmpI z 0 = 0 ∨ cmpI z 0 = 1 := by
      rcases Int.lt_or_eq_of_le (show 0 ≤ z by omega) with h1 | h1
      · exact .inr (cmpI_gt h1)
      · rw [← h1]; exact .inl (cmpI_eq 0)
    obtain ⟨t, ht, ht0⟩ : ∃ t : Nat, cmpI z 0 = (t : Int) ∧ t ≤ 1 := by
      rcases hs with h1 | h1
      · exact ⟨0, h1, by omega⟩
      · exact ⟨1, h1, by omega⟩
    rw [ht] at HS
    clear hs h ht hcat
    go_enter Tryz.func91, Tryz.ntmps91
    go_wp2_with fail
    have L := L0.box (w.heap.size) (by simp) (ng z) A (zl z) c
    have c00 := L.b0.c0
    have c01 := L.b0.c1
    have f00 := L.b0.fr 0
    have f01 := L.b0.fr 1
    go_wp2_with fail
    refine (HD.out _ (L.getN (by simp))).mono ?_
    rintro e w1 ⟨rfl, be⟩
    replace L := L.step be
    clear c00 c01 f00 f01 be
    have c00 := L.b0.c0
    have c01 := L.b0.c1
    have f00 := L.b0.fr 0
    have f01 := L.b0.fr 1
    go_wp2_with fail
    refine (HS.out _ (L.getZ (by simp))).mono ?_
    rintro e w2 ⟨rfl, be⟩
    replace L := L.step be
    go_wp2_with fail
    go_ret
    exact ⟨by rw [HF.out]; rfl, L.below⟩

end Go.Proofs.YtpgiolbnmlbjbaaGreatDoor
