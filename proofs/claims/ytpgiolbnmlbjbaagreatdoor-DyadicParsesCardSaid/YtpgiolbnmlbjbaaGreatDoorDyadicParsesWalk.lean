/- The walk of DyadicParses: whatever the input, the law returns true and turns nothing that was there. -/
import Derived.Test.YtpgiolbnmlbjbaaGreatDoorAwake8
import Derived.Test.YtpgiolbnmlbjbaaGreatDoorMillDy
import Derived.Test.YtpgiolbnmlbjbaaGreatDoorDyLaw
import Derived.Test.YtpgiolbnmlbjbaaGreatDoorDyPE
import Derived.Test.YtpgiolbnmlbjbaaGreatDoorDyPF
import Derived.Test.YtpgiolbnmlbjbaaGreatDoorRefDyP
import Derived.Test.YtpgiolbnmlbjbaaGreatDoorRefDyE
import Derived.Deep.RegionHeld3
import Derived.Deep.DrawnRows
namespace Go.Proofs.YtpgiolbnmlbjbaaGreatDoor
open Go.RowKit
set_option linter.unusedVariables false
set_option linter.unusedSimpArgs false
set_option maxRecDepth 100000
attribute [local go_sem ↓] Go.wp_at_zero Go.wp_at_succ

theorem dv_read {l : List Nat} (h : errD8 l = 0) : Dv (valM8 l) (valE8 l) := by
  have hl : ¬ 20010 < l.length := fun h9 => by rw [(err8_long h9).1] at h; exact absurd h (by decide)
  have ho : ok8 l = true := by
    cases hk : ok8 l
    · rw [(err8_bad hl hk).1] at h; exact absurd h (by decide)
    · rfl
  obtain ⟨_, e2, e3⟩ := err8_good hl ho
  rw [e2, e3]
  unfold ok8 okD8 at ho
  rw [Bool.and_eq_true, Bool.and_eq_true, Bool.and_eq_true, Bool.and_eq_true] at ho
  have hv := ho.2.2.2.2
  unfold vd8 at hv
  split at hv
  · next h0 => exact Or.inl ⟨h0, of_decide_eq_true hv⟩
  · next h0 => exact Or.inr ⟨h0, hv⟩
theorem zl_read {l : List Nat} (h : errD8 l = 0) : zl (valM8 l) ≤ l.length := by
  unfold valM8
  rw [if_pos h]
  exact Nat.le_trans (zl_parse8 (Nat.le_refl _)) (hd8_len l)

set_option maxHeartbeats 4000000 in
theorem walk_DyadicParses (a0 : ByteArray) (w : World) (h0 : a0.size ≤ 9223372036854775807) (hT : Tab w) (hP : Pow10 w) :
    Calls Tryz.prog 9 #[.string a0] w (fun e w' => e = .returned (.bool true) ∧ Below w.heap.size w w') := by
  obtain ⟨l, rfl, hb⟩ := str_of a0
  have hsz := str_size l
  have HB := Lib.hid hb
  obtain ⟨n, hn⟩ : ∃ n, l.length = n := ⟨_, rfl⟩
  rw [hn] at hsz
  by_cases hlen : 300 < n
  · have hd : decide ((300 : Int) < (n : Int)) = true := decide_eq_true (by omega)
    clear hb
    go_enter Tryz.func9, Tryz.ntmps9
    go_wp2_with fail
    have L := (Lq.mk0 w)
    (try go_wp2_with fail)
    refine (awake8_any _ (hT.mono L.below) (hP.mono L.below)).mono ?_
    rintro e w1 ⟨rfl, be⟩
    replace L := L.step be
    clear be
    go_wp2_with fail
    go_ret
    exact ⟨rfl, L.below⟩
  · have hd : decide ((300 : Int) < (n : Int)) = false := decide_eq_false (by omega)
    have H1 := Lib.hid (fun W => dparse_any l W hb (by omega))
    have H2 := Lib.hid (fun W => rparse8_any l W hb (by omega))
    have s3 := fun v u W h1 h2 => same8_any (valM8 l) (valE8 l) (valM8 l) (valE8 l) v u W h1 h2
    rw [decide_eq_true (rfl : valM8 l = valM8 l), decide_eq_true (rfl : valE8 l = valE8 l), Bool.true_and] at s3
    have HS := Lib.hid s3
    clear s3 hb
    by_cases hR : errD8 l = 0
    · have hv := dv_bound (dv_read hR)
      have hz := zl_read hR
      have f1 := fun v W h (hW : Below w.heap.size w W) => dformat_any (valM8 l) (valE8 l) v W h (by omega) (by omega) (hP.mono hW)
      rw [fmt_read hR] at f1
      have HF := Lib.hid f1
      rw [hR] at H1 H2
      have q2 : ((str l).toList == (str l).toList) = true := by simp
      clear f1 hv hz hR hlen hn HB
      generalize valM8 l = M at *
      generalize valE8 l = E at *
      go_enter Tryz.func9, Tryz.ntmps9
      go_wp2_with fail
      have L := (Lq.mk0 w)
      (try go_wp2_with fail)
      refine (awake8_any _ (hT.mono L.below) (hP.mono L.below)).mono ?_
      rintro e w1 ⟨rfl, be⟩
      replace L := L.step be
      clear be
      (try go_wp2_with fail)
      refine (H1.out _).mono ?_
      rintro e w2 ⟨vx, rfl, id, be⟩
      obtain ⟨A, c, rfl, _, in9⟩ := id.form
      replace L := (L.step be).n in9
      clear be id in9
      replace L := L.varD w2.heap.size rfl (ng M) A (zl M) c E
      go_wp2_with fail
      obtain ⟨g, hg⟩ : ∃ g, w2.heap.size = g := ⟨_, rfl⟩
      rw [hg] at L ⊢
      clear hg
      refine (H2.out _).mono ?_
      rintro e w3 ⟨vy, rfl, id, be⟩
      obtain ⟨B, d, rfl, _, in9⟩ := id.form
      replace L := (L.step be).n in9
      clear be id in9
      replace L := L.varD w3.heap.size rfl (ng M) B (zl M) d E
      have c00 := L.b0.c30
      have c01 := L.b0.c31
      have c02 := L.b0.c32
      have c10 := L.tl.b0.c30
      have c11 := L.tl.b0.c31
      have c12 := L.tl.b0.c32
      (try go_wp2_with fail)
      refine (HS.out _ _ _ (isD_n (s := .slice A (zl M) c) (L.getN (by simp))) (isD_n (s := .slice B (zl M) d) (L.getN (by simp)))).mono ?_
      rintro e w4 ⟨rfl, be⟩
      clear c00 c01 c02 c10 c11 c12
      replace L := L.step be
      clear be
      have c00 := L.b0.c30
      have c01 := L.b0.c31
      have c02 := L.b0.c32
      have c10 := L.tl.b0.c30
      have c11 := L.tl.b0.c31
      have c12 := L.tl.b0.c32
      (try go_wp2_with fail)
      refine (HF.out _ _ (isD_n (s := .slice A (zl M) c) (L.getN (by simp))) L.below).mono ?_
      rintro e w5 ⟨rfl, be⟩
      clear c00 c01 c02 c10 c11 c12
      replace L := L.step be
      clear be
      go_wp2_with fail
      go_ret
      exact ⟨rfl, L.below⟩
    · generalize errD8 l = R at *
      have hb1 : (R != 0) = true := by simpa using hR
      have hb2 : (R == 0) = false := by simpa using hR
      clear hlen hn HB
      generalize valM8 l = M at *
      generalize valE8 l = E at *
      go_enter Tryz.func9, Tryz.ntmps9
      go_wp2_with fail
      have L := (Lq.mk0 w)
      (try go_wp2_with fail)
      refine (awake8_any _ (hT.mono L.below) (hP.mono L.below)).mono ?_
      rintro e w1 ⟨rfl, be⟩
      replace L := L.step be
      clear be
      (try go_wp2_with fail)
      refine (H1.out _).mono ?_
      rintro e w2 ⟨vx, rfl, id, be⟩
      obtain ⟨A, c, rfl, _, in9⟩ := id.form
      replace L := (L.step be).n in9
      clear be id in9
      replace L := L.varD w2.heap.size rfl (ng M) A (zl M) c E
      go_wp2_with fail
      obtain ⟨g, hg⟩ : ∃ g, w2.heap.size = g := ⟨_, rfl⟩
      rw [hg] at L ⊢
      clear hg
      refine (H2.out _).mono ?_
      rintro e w3 ⟨vy, rfl, id, be⟩
      obtain ⟨B, d, rfl, _, in9⟩ := id.form
      replace L := (L.step be).n in9
      clear be id in9
      replace L := L.varD w3.heap.size rfl (ng M) B (zl M) d E
      have c00 := L.b0.c30
      have c01 := L.b0.c31
      have c02 := L.b0.c32
      have c10 := L.tl.b0.c30
      have c11 := L.tl.b0.c31
      have c12 := L.tl.b0.c32
      (try go_wp2_with fail)
      refine (HS.out _ _ _ (isD_n (s := .slice A (zl M) c) (L.getN (by simp))) (isD_n (s := .slice B (zl M) d) (L.getN (by simp)))).mono ?_
      rintro e w4 ⟨rfl, be⟩
      clear c00 c01 c02 c10 c11 c12
      replace L := L.step be
      clear be
      have c00 := L.b0.c30
      have c01 := L.b0.c31
      have c02 := L.b0.c32
      have c10 := L.tl.b0.c30
      have c11 := L.tl.b0.c31
      have c12 := L.tl.b0.c32
      go_wp2_with fail
      go_ret
      exact ⟨rfl, L.below⟩

end Go.Proofs.YtpgiolbnmlbjbaaGreatDoor
