/- The reference's Valid. -/
import Derived.Test.YtpgiolbnmlbjbaaGreatDoorDyA
import Derived.Test.YtpgiolbnmlbjbaaGreatDoorBaseJ
import Derived.Test.YtpgiolbnmlbjbaaGreatDoorBaseR
import Derived.Test.YtpgiolbnmlbjbaaGreatDoorBaseI
import Derived.Deep.RegionHeld3
import Derived.Deep.DrawnRows
namespace Go.Proofs.YtpgiolbnmlbjbaaGreatDoor
open Go.RowKit
set_option linter.unusedVariables false
set_option linter.unusedSimpArgs false
set_option maxRecDepth 100000
attribute [local go_sem ↓] Go.wp_at_zero Go.wp_at_succ

/-- Whether three cells are a valid dyadic. -/
def dval (b : Bool) (l : List Nat) (e : Int) : Bool := sval b l && (if l.length = 0 then decide (e = 0) else decide (blen (val l) ≤ 65536) && (decide (-65536 ≤ e) && (decide (e ≤ 65536) && bitB (val l) 0)))
theorem isN_trim8 {w : World} {A : Option Addr} {n c : Nat} {l : List Nat} (h : Sl w A n c l) (ht : isTrim l = true) : IsN w (.slice A n c) (val l) := by
  have h1 : dig (val l) = l := by
    rw [dig_val h.small, ← trim_take, of_decide_eq_true ht, List.take_length]
  exact ⟨A, n, c, rfl, by rw [h1]; exact h⟩
theorem dval_any (m e : Int) : dval (ng m) (dig m.natAbs) e = if m = 0 then decide (e = 0) else fits8 m e := by
  unfold dval fits8
  rw [sval_z, val_dig, length_dig, Bool.true_and]
  by_cases h : m = 0
  · subst h; simp [len_zero]
  · rw [if_neg h, if_neg (by have := zl_pos h; unfold zl at this; omega)]

set_option maxHeartbeats 4000000 in
theorem rvalid8_any (b : Bool) (l : List Nat) (A : Option Addr) (n c : Nat) (e : Int) (w : World) (h : Sl w A n c l) (hl : n ≤ 1000000) :
    Calls Tryz.prog 18 #[.agg #[.bool b, .slice A n c, .int .i64 e]] w (RetB w (dval b l e)) := by
  have H1 := Lib.hid (fun W (hW : Below w.heap.size w W) => rzvalid_any b l A n c W (h.mono hW))
  obtain ⟨r, hr⟩ : ∃ r, dval b l e = r := ⟨_, rfl⟩
  rw [hr]
  have hn2 : l.length = n := h.len
  unfold dval at hr
  rw [hn2] at hr
  have HR := Lib.hid hr
  clear hr
  have lv : len (val l) ≤ 1000000 := Nat.le_trans (len_val_le h.small) (by rw [h.len]; exact hl)
  have HG := Lib.hid (fun W v h1 => rbits_any (val l) v W h1 (by omega))
  have HB := Lib.hid (fun W v h1 => rbit_any (val l) 0 v W h1 (by omega))
  rw [show bitI (val l) 0 = bitB (val l) 0 from bitI_nat _ 0] at HB
  generalize bitB (val l) 0 = b4 at *
  obtain ⟨bl, hbl⟩ : ∃ bl, blen (val l) = bl := ⟨_, rfl⟩
  rw [hbl] at HR HG
  clear hbl lv
  go_enter Tryz.func18, Tryz.ntmps18
  go_wp2_with fail
  have L := ((Lq.mk0 w).varD (w.heap.size) (by simp) b A n c e)
  have c00 := L.b0.c30
  have f00 := L.b0.fr 0
  have c01 := L.b0.c31
  have f01 := L.b0.fr 1
  have c02 := L.b0.c32
  have f02 := L.b0.fr 2
  refine (H1.out _ L.below).mono ?_
  rintro e w1 ⟨rfl, be⟩
  clear c00 f00 c01 f01 c02 f02
  replace L := L.step be
  clear be
  have c00 := L.b0.c30
  have f00 := L.b0.fr 0
  have c01 := L.b0.c31
  have f01 := L.b0.fr 1
  have c02 := L.b0.c32
  have f02 := L.b0.fr 2
  cases hs : sval b l
  · obtain rfl : r = false := by rw [← HR.out, hs]; rfl
    go_wp2_with fail
    go_ret
    exact ⟨rfl, L.below⟩
  · have ht := (Bool.and_eq_true _ _ ▸ hs : isTrim l = true ∧ _).1
    have I1 := isN_trim8 (h.mono L.below) ht
    rcases Nat.eq_zero_or_pos n with hz | hz
    · subst hz
      obtain rfl : decide (e = 0) = r := by rw [← HR.out, hs]; rfl
      by_cases he : e = 0
      · subst he
        go_wp2_with fail
        go_ret
        exact ⟨rfl, L.below⟩
      · have hee : (e == 0) = false := by simpa using he
        go_wp2_with fail
        go_ret
        exact ⟨by simp [he], L.below⟩
    · have hz0 : (0 : Int) < (n : Int) := by omega
      rw [hs, if_neg (show ¬ n = 0 by omega), Bool.true_and] at HR
      by_cases q1 : bl ≤ 65536
      · have p1 : decide ((bl : Int) ≤ 65536) = true := decide_eq_true (by omega)
        rw [decide_eq_true q1, Bool.true_and] at HR
        by_cases q2 : -65536 ≤ e
        · have p2 : decide (-65536 ≤ e) = true := decide_eq_true q2
          rw [decide_eq_true q2, Bool.true_and] at HR
          by_cases q3 : e ≤ 65536
          · have p3 : decide (e ≤ 65536) = true := decide_eq_true q3
            rw [decide_eq_true q3, Bool.true_and] at HR
            obtain rfl : b4 = r := HR.out
            clear HR q1 q2 q3
            go_wp2_with fail
            refine (HG.out _ _ I1).mono ?_
            rintro e9 w' ⟨rfl, rfl⟩
            go_wp2_with fail
            refine (HB.out _ _ I1).mono ?_
            rintro e9 w' ⟨rfl, rfl⟩
            go_wp2_with fail
            go_ret
            exact ⟨rfl, L.below⟩
          · have p3 : decide (e ≤ 65536) = false := decide_eq_false q3
            rw [p3, Bool.false_and] at HR
            obtain rfl : false = r := HR.out
            clear HR q1 q2 q3
            go_wp2_with fail
            refine (HG.out _ _ I1).mono ?_
            rintro e9 w' ⟨rfl, rfl⟩
            go_wp2_with fail
            go_ret
            exact ⟨rfl, L.below⟩
        · have p2 : decide (-65536 ≤ e) = false := decide_eq_false q2
          rw [p2, Bool.false_and] at HR
          obtain rfl : false = r := HR.out
          clear HR q1 q2
          go_wp2_with fail
          refine (HG.out _ _ I1).mono ?_
          rintro e9 w' ⟨rfl, rfl⟩
          go_wp2_with fail
          go_ret
          exact ⟨rfl, L.below⟩
      · have p1 : decide ((bl : Int) ≤ 65536) = false := decide_eq_false (by omega)
        rw [decide_eq_false q1, Bool.false_and] at HR
        obtain rfl : false = r := HR.out
        clear HR q1
        go_wp2_with fail
        refine (HG.out _ _ I1).mono ?_
        rintro e9 w' ⟨rfl, rfl⟩
        go_wp2_with fail
        go_ret
        exact ⟨rfl, L.below⟩

/-- Of a dyadic's parts. -/
theorem rvalid8_d (m e : Int) (vx : Value) (w : World) (hx : IsD w vx m e) (lm : zl m ≤ 1000000) :
    Calls Tryz.prog 18 #[vx] w (RetB w (if m = 0 then decide (e = 0) else fits8 m e)) := by
  obtain ⟨s, rfl, hs⟩ := hx
  obtain ⟨A, n, c, rfl, hs⟩ := hs
  have hl := hs.len
  rw [length_dig] at hl
  have := rvalid8_any (ng m) _ A n c e w hs (by unfold zl at lm; omega)
  rwa [dval_any] at this

end Go.Proofs.YtpgiolbnmlbjbaaGreatDoor
