/- The reference's Valid. -/
import Derived.Test.YtbndgggjfjdfbaaGreatDoorRefRatC
import Derived.Deep.RegionHeld3
import Derived.Deep.DrawnRows
namespace Go.Proofs.YtbndgggjfjdfbaaGreatDoor
open Go.RowKit
set_option linter.unusedVariables false
set_option linter.unusedSimpArgs false
set_option maxRecDepth 100000
attribute [local go_sem ↓] Go.wp_at_zero Go.wp_at_succ

/-- Whether three cells are a valid fraction. -/
def qval (b : Bool) (l l2 : List Nat) : Bool := sval b l && isTrim l2 && decide (0 < l2.length) && sameB (Nat.gcd (val l) (val l2)) 1
theorem isN_trim {w : World} {A : Option Addr} {n c : Nat} {l : List Nat} (h : Sl w A n c l) (ht : isTrim l = true) : IsN w (.slice A n c) (val l) := by
  have h1 : dig (val l) = l := by
    rw [dig_val h.small, ← trim_take, of_decide_eq_true ht, List.take_length]
  exact ⟨A, n, c, rfl, by rw [h1]; exact h⟩

set_option maxHeartbeats 4000000 in
theorem rvalid7_any (b : Bool) (l l2 : List Nat) (A B : Option Addr) (n c n2 c2 : Nat) (w : World) (h : Sl w A n c l) (h2 : Sl w B n2 c2 l2) (hl : n ≤ 100000) (hl2 : n2 ≤ 100000) :
    Calls Tryz.prog 14 #[.agg #[.bool b, .slice A n c, .slice B n2 c2]] w (RetB w (qval b l l2)) := by
  have H1 := Lib.hid (fun W (hW : Below w.heap.size w W) => rzvalid_any b l A n c W (h.mono hW))
  have H2 := Lib.hid (fun W (hW : Below w.heap.size w W) => rvalid_any l2 B n2 c2 W (h2.mono hW))
  obtain ⟨r, hr⟩ : ∃ r, qval b l l2 = r := ⟨_, rfl⟩
  rw [hr]
  have HR := Lib.hid hr
  clear hr
  have hn2 : l2.length = n2 := h2.len
  have lv : len (val l) ≤ 100000 := Nat.le_trans (len_val_le h.small) (by rw [h.len]; exact hl)
  have lv2 : len (val l2) ≤ 100000 := Nat.le_trans (len_val_le h2.small) (by rw [h2.len]; exact hl2)
  have HO := Lib.hid (fun W => rof_any 1 W (by omega))
  have HG := Lib.hid (fun W v u h1 h2 => rgcd_any (val l) (val l2) v u W h1 h2 (by omega) (by omega))
  go_enter Tryz.func14, Tryz.ntmps14
  go_wp2_with fail
  have L := ((Lq.mk0 w).varQ (w.heap.size) (by simp) b A B n c n2 c2)
  have c00 := L.b0.c30
  have f00 := L.b0.fr 0
  have c01 := L.b0.c31
  have f01 := L.b0.fr 1
  have c02 := L.b0.c32
  have f02 := L.b0.fr 2
  refine (H1.out _ L.below).mono ?_
  rintro e w1 ⟨rfl, be⟩
  clear c00 f00 c01 f01 c02 f02
  replace L := L.step be
  clear be
  have c00 := L.b0.c30
  have f00 := L.b0.fr 0
  have c01 := L.b0.c31
  have f01 := L.b0.fr 1
  have c02 := L.b0.c32
  have f02 := L.b0.fr 2
  cases hs : sval b l
  · obtain rfl : r = false := by rw [← HR.out]; unfold qval; rw [hs]; simp
    go_wp2_with fail
    go_ret
    exact ⟨rfl, L.below⟩
  · have ht := (Bool.and_eq_true _ _ ▸ hs : isTrim l = true ∧ _).1
    have I1 := isN_trim (h.mono L.below) ht
    go_wp2_with fail
    refine (H2.out _ L.below).mono ?_
    rintro e w' ⟨rfl, rfl⟩
    cases ht2 : isTrim l2
    · obtain rfl : r = false := by rw [← HR.out]; unfold qval; rw [hs, ht2]; simp
      go_wp2_with fail
      go_ret
      exact ⟨rfl, L.below⟩
    · have I2 := isN_trim (h2.mono L.below) ht2
      rcases Nat.eq_zero_or_pos n2 with hz | hz
      · obtain rfl : r = false := by rw [← HR.out]; unfold qval; rw [hn2, hz]; simp
        subst hz
        go_wp2_with fail
        go_ret
        exact ⟨rfl, L.below⟩
      · obtain rfl : sameB (Nat.gcd (val l) (val l2)) 1 = r := by rw [← HR.out]; unfold qval; rw [hs, ht2, hn2]; simp [hz]
        have hz0 : (0 : Int) < (n2 : Int) := by omega
        generalize Nat.gcd (val l) (val l2) = q at *
        go_wp2_with fail
        refine (HG.out _ _ _ I1 I2).mono ?_
        rintro e w2 ⟨v2, rfl, i2, be⟩
        replace L := (L.step be).n i2
        clear be i2
        go_wp2_with fail
        refine (HO.out _).mono ?_
        rintro e w3 ⟨v3, rfl, o⟩
        replace L := (L.step o.below).n o.isN
        clear o
        go_wp2_with fail
        refine (same_any q 1 _ _ _ (L.getN (by simp)) (L.getN (by simp))).mono ?_
        rintro e w' ⟨rfl, rfl⟩
        go_wp2_with fail
        go_ret
        exact ⟨rfl, L.below⟩

end Go.Proofs.YtbndgggjfjdfbaaGreatDoor
