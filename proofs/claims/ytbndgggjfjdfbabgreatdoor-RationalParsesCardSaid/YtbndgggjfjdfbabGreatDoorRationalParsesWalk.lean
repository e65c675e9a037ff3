/- The walk of RationalParses: whatever the input, the law returns true and turns nothing that was there. -/
import Derived.Test.YtbndgggjfjdfbabGreatDoorAwake7
import Derived.Test.YtbndgggjfjdfbabGreatDoorRefPars7
import Derived.Test.YtbndgggjfjdfbabGreatDoorRatT2
import Derived.Test.YtbndgggjfjdfbabGreatDoorBaseR
import Derived.Test.YtbndgggjfjdfbabGreatDoorByt
import Derived.Deep.RegionHeld3
import Derived.Deep.DrawnRows
namespace Go.Proofs.YtbndgggjfjdfbabGreatDoor
open Go.RowKit
set_option linter.unusedVariables false
set_option linter.unusedSimpArgs false
set_option maxRecDepth 100000
attribute [local go_sem ↓] Go.wp_at_zero Go.wp_at_succ

/-- What stands in the row when k places are filled. -/
theorem sevens_step (n k : Nat) (h : k < n) : (List.replicate k 55 ++ List.replicate (n - k) 0).set k 55 = List.replicate (k + 1) 55 ++ List.replicate (n - (k + 1)) 0 := by
  have e : n - k = (n - (k + 1)) + 1 := by omega
  rw [e, List.replicate_succ, List.set_append_right _ _ (by simp)]
  rw [List.length_replicate, Nat.sub_self, List.set_cons_zero, List.replicate_succ', List.append_assoc]
  rfl
theorem len_ten (k : Nat) : len (10 ^ k) ≤ k / 9 + 1 := by
  refine len_le_iff.2 ?_
  have h1 : 10 ^ k ≤ 10 ^ (9 * (k / 9) + 8) := Nat.pow_le_pow_right (by omega) (by omega)
  have h2 : 10 ^ (9 * (k / 9) + 8) = (10 ^ 9) ^ (k / 9) * 10 ^ 8 := by rw [Nat.pow_add, Nat.pow_mul]
  have h3 : (10 ^ 9) ^ (k / 9) ≤ W32 ^ (k / 9) := Nat.pow_le_pow_left (by unfold W32; decide) _
  rw [h2] at h1
  refine Nat.lt_of_le_of_lt h1 ?_
  rw [Nat.pow_succ]
  refine Nat.lt_of_le_of_lt (Nat.mul_le_mul_right _ h3) (Nat.mul_lt_mul_of_pos_left ?_ (Nat.pow_pos (by unfold W32; omega)))
  unfold W32
  decide
/-- A text that is read is the decimal of its number. -/
theorem text_dec {l : List Nat} (h : errD l = 0) : 0 ≤ numD l ∧ zl (numD l) ≤ 1000 ∧ len (denD l) ≤ 60 ∧ ∃ u f, denD l = 2 ^ u * 5 ^ f ∧ pt (dd ((numD l).natAbs * (10 ^ max u f / (2 ^ u * 5 ^ f)))) (max u f) = l := by
  have hlen : ¬ 400 < l.length := fun e => by unfold errD at h; rw [if_pos e] at h; exact absurd h (by decide)
  have ho : okD l = true := by
    cases h1 : okD l
    · unfold errD at h; rw [if_neg hlen, h1] at h; exact absurd h (by decide)
    · rfl
  obtain ⟨p1, p2⟩ := pt_self ho
  obtain ⟨q1, q2, q3⟩ := parts_cat l
  rw [List.length_append] at q1
  have hall : (whl l ++ frc l).all isD = true := by
    unfold okD at ho
    rw [Bool.and_eq_true] at ho
    rw [List.all_append, good_all ho.1, Bool.true_and]
    rcases cut_cases l with h | ⟨a, b, e, h⟩
    · rw [(parts_no h).2.1]; rfl
    · have h3 := (parts_yes (b := b) h).2.2
      rw [← e] at h3
      rw [h3] at ho
      exact (okF_all (by simpa using ho.2)).2.2
  have hN := num_lt hall
  rw [List.length_append] at hN
  obtain ⟨u, f, g1, g2, g3⟩ := low_of p2
  have hn : numD l = (valD l).num := by unfold numD; rw [if_pos h]
  have hd : denD l = (valD l).den := by unfold denD; rw [if_pos h]
  obtain ⟨e1, e2⟩ := divInt_nat ((num (whl l ++ frc l) : Nat) : Int) (10 ^ (frc l).length) (Nat.pow_pos (by omega))
  have e1' : numD l = ((num (whl l ++ frc l) / Nat.gcd (num (whl l ++ frc l)) (10 ^ (frc l).length) : Nat) : Int) := by
    rw [hn]; unfold valD; rw [e1, ng_nat, Int.natAbs_natCast]; rfl
  have e2' : denD l = 10 ^ (frc l).length / Nat.gcd (num (whl l ++ frc l)) (10 ^ (frc l).length) := by
    rw [hd]; unfold valD; rw [e2, Int.natAbs_natCast]
  refine ⟨by rw [e1']; exact Int.natCast_nonneg _, ?_, ?_, u, f, by rw [e2', g1], ?_⟩
  · rw [e1', zl_nat]
    refine Nat.le_trans (len_mono (Nat.le_trans (Nat.div_le_self _ _) (Nat.le_of_lt hN))) (Nat.le_trans (len_ten _) (by omega))
  · rw [e2']
    exact Nat.le_trans (len_mono (Nat.div_le_self _ _)) (Nat.le_trans (len_ten _) (by omega))
  · rw [e1', Int.natAbs_natCast, g2, g3]
    exact p1

set_option maxHeartbeats 8000000 in
theorem walk_RationalParses (a0 : ByteArray) (a1 : Int) (w : World) (h0 : a0.size ≤ 9223372036854775807) (h1 : -9223372036854775808 ≤ a1 ∧ a1 ≤ 9223372036854775807) (hT : Tab w) :
    Calls Tryz.prog 5 #[.string a0, .int .i64 a1] w (fun e w' => e = .returned (.bool true) ∧ Below w.heap.size w w') := by
  obtain ⟨l, rfl, hb⟩ := str_of a0
  have hsz := str_size l
  rw [hsz] at h0
  obtain ⟨r, hr⟩ : ∃ r : Nat, a1 % 5 = (r : Int) := ⟨(a1 % 5).toNat, by omega⟩
  have m1 := fun W => mod_any a1 5 W (by omega) (by omega) h1.1 h1.2
  rw [hr] at m1
  have M1 := Lib.hid m1
  have hr5 : r < 5 := by omega
  clear m1 hr h1
  obtain ⟨n, hn⟩ : ∃ n : Nat, n = 398 + r := ⟨_, rfl⟩
  have en : 398 + (r : Int) = (n : Int) := by omega
  have hn4 : n ≤ 402 := by omega
  have hn0 : 0 < n := by omega
  clear hn
  by_cases hlong : 300 < l.length
  · have hd : decide ((300 : Int) < (l.length : Int)) = true := decide_eq_true (by omega)
    obtain ⟨k, hk⟩ : ∃ k, l.length = k := ⟨_, rfl⟩
    rw [hk] at hsz hd
    generalize str l = s at *
    clear hk hlong h0 hb
    go_enter Tryz.func5, Tryz.ntmps5
    go_wp2_with fail
    go_wp2_with fail
    refine (awake7_any _ hT).mono ?_
    rintro e w1 ⟨rfl, be⟩
    go_wp2_with fail
    go_ret
    exact ⟨rfl, be⟩
  · have hd : decide ((300 : Int) < (l.length : Int)) = false := decide_eq_false (by omega)
    obtain ⟨k, hk⟩ : ∃ k, l.length = k := ⟨_, rfl⟩
    have HLL := Lib.hid (show l.length ≤ 402 from by omega)
    rw [hk] at hsz hd
    clear hk hlong h0
    go_enter Tryz.func5, Tryz.ntmps5
    go_wp2_with fail
    go_wp2_with fail
    refine (awake7_any _ hT).mono ?_
    rintro e w1 ⟨rfl, b1⟩
    go_wp2_with fail
    refine (M1.out _).mono ?_
    rintro e w' ⟨rfl, rfl⟩
    have hs1 := b1.size
    go_wp2_with (at_make; refine wp_mkB _ rfl _ _ rfl w.heap.size _ _ n rfl rfl rfl rfl (by omega) hs1 ?_)
    intro w2 o2 g2
    have b2 := b1.grown g2 (by omega) (fun k h => by cases h)
    obtain ⟨g, hg⟩ : ∃ g, w1.heap.size = g := ⟨_, rfl⟩
    rw [hg] at o2 hs1 ⊢
    clear hg g2 en
    go_wp2_with fail
    go_loopw [26] (fun i wr => ∃ (j : Nat), i = .int .i64 (j : Int) ∧ j ≤ n ∧ OwnB wr w.heap.size (.slice (some ⟨g, 0, none⟩) n n) (List.replicate j 55 ++ List.replicate (n - j) 0) ∧ Below w.heap.size w wr) (fun i _ => n - (intOf i).toNat)
    case atStart => exact ⟨0, rfl, by omega, o2, b2⟩
    case round =>
      obtain ⟨j, rfl, hj, hown, hbe⟩ := hrel
      clear o2 b2
      rcases Nat.eq_or_lt_of_le hj with rfl | hjn
      · rw [Nat.sub_self, List.replicate_zero, List.append_nil] at hown
        have hcv := hown.conv
        obtain ⟨l1, hl1⟩ : ∃ l1, List.replicate j 55 = l1 := ⟨_, rfl⟩
        have hb1 : Byt l1 := by rw [← hl1]; exact fun x hx => by rw [(List.mem_replicate.1 hx).2]; omega
        have HL1 := Lib.hid (show l1.length ≤ 402 from by rw [← hl1, List.length_replicate]; exact hn4)
        rw [hl1] at hcv
        clear hl1 hown hj hn4 hn0 hr5 hd
        go_wp2_with fail
        clear hcv
        obtain ⟨gs, hgs⟩ : ∃ gs, wr.heap.size = gs := ⟨_, rfl⟩
        obtain ⟨U, hU⟩ : ∃ U, wr.alloc (.cells #[.string (str l), .string (str l1)] 9) = U := ⟨_, rfl⟩
        have hrow : U.heap[gs]? = some (.cells #[.string (str l), .string (str l1)] 9 (0, 0)) := by rw [← hU, ← hgs]; exact heap_alloc_new wr _
        have hgl : gs < U.heap.size := by rw [← hU, ← hgs]; simp
        have HB0 := Lib.hid (show Below w.heap.size w U from by rw [← hU]; exact hbe.alloc hbe.size _)
        rw [hU, hgs]
        have HRW := Lib.hid (fun (wr' : World) (hW : Below U.heap.size U wr') => (show wr'.heap[gs]? = some (.cells #[.string (str l), .string (str l1)] 9 (0, 0)) from by rw [hW.block gs hgl]; exact hrow))
        have HTB := Lib.hid (fun (wr' : World) (hW : Below U.heap.size U wr') => (hT.mono HB0.out).mono hW)
        have hwU := HB0.out.size
        clear hU hrow hgl hgs hT hbe b1 hs1 hsz
        go_loopw [38] (fun i wr => ∃ t : Nat, i = .int .i64 (t : Int) ∧ t ≤ 2 ∧ Below U.heap.size U wr) (fun i _ => 2 - (intOf i).toNat)
        case atStart => exact ⟨0, rfl, by omega, Below.refl _ _⟩
        case round =>
          obtain ⟨t, rfl, ht, hbe⟩ := hrel
          have hbs := hbe.size
          have hr := HRW.out _ hbe
          have hTw := HTB.out _ hbe
          rcases (show t = 0 ∨ t = 1 ∨ t = 2 by omega) with rfl | rfl | rfl
          · have x0 := cell_of_row _ gs 0 _ _ _ hr
            simp only [List.getElem?_toArray, List.getElem?_cons_zero, List.getElem?_cons_succ] at x0
            clear hr
            have P1 := Lib.hid (fun W => pparse_any l W hb (Nat.le_trans HLL.out (by omega)))
            have P2 := Lib.hid (fun W => rparse7_any l W hb (Nat.le_trans HLL.out (by omega)))
            have HTX := Lib.hid (fun h : errD l = 0 => text_dec h)
            have hE : 0 ≤ errD l ∧ errD l ≤ 7 := by unfold errD; (repeat' split) <;> omega
            obtain ⟨E, hEe⟩ : ∃ E, errD l = E := ⟨_, rfl⟩
            rw [hEe] at P1 P2 HTX hE
            generalize numD l = rn at *
            generalize denD l = rd at *
            have S1 := Lib.hid (fun v u W k1 k2 => same7_yes rn rd v u W k1 k2)
            have hE1 : (E == E) = true := by simp
            have hE2 : (E != E) = false := by simp
            clear hEe
            go_wp2_with fail
            clear x0
            refine (P1.out _).mono ?_
            rintro e w41 ⟨v, rfl, iq, be⟩
            have L := ((Lq.mk0 _).step be).q iq
            obtain ⟨A8, c8, B8, d8, rfl, _, _, _⟩ := iq.form
            clear iq be
            replace L := L.varQ w41.heap.size rfl (ng rn) A8 B8 (zl rn) c8 (len rd) d8
            have k0 := L.b0.c30
            have k1 := L.b0.c31
            have k2 := L.b0.c32
            go_wp2_with fail
            obtain ⟨ga, hga⟩ : ∃ ga, w41.heap.size = ga := ⟨_, rfl⟩
            rw [hga] at L k0 k1 k2 ⊢
            clear hga
            refine (P2.out _).mono ?_
            rintro e w42 ⟨v, rfl, iq, be⟩
            clear k0 k1 k2
            replace L := (L.step be).q iq
            obtain ⟨A9, c9, B9, d9, rfl, _, _, _⟩ := iq.form
            clear iq be
            replace L := L.varQ w42.heap.size rfl (ng rn) A9 B9 (zl rn) c9 (len rd) d9
            have k0 := L.b0.c30
            have k1 := L.b0.c31
            have k2 := L.b0.c32
            have j0 := L.tl.b0.c30
            have j1 := L.tl.b0.c31
            have j2 := L.tl.b0.c32
            go_wp2_with fail
            obtain ⟨gb, hgb⟩ : ∃ gb, w42.heap.size = gb := ⟨_, rfl⟩
            rw [hgb] at L k0 k1 k2 ⊢
            clear hgb
            refine (S1.out _ _ _ (L.getQ (by simp)) (L.getQ (by simp))).mono ?_
            rintro e w43 ⟨rfl, be⟩
            replace L := L.step be
            clear k0 k1 k2 j0 j1 j2 be P1 P2 S1
            have j0 := L.tl.b0.c30
            have j1 := L.tl.b0.c31
            have j2 := L.tl.b0.c32
            by_cases h0 : E = 0
            · obtain ⟨t1, t2, t3, u, f, t4, t5⟩ := HTX.out h0
              have hd := fun v W k1 hT => pdec_yes rn rd u f v W k1 t2 t3 t1 hT t4
              rw [t5] at hd
              have D1 := Lib.hid hd
              subst h0
              clear HTX t1 t2 t3 t4 t5 hd hE
              have e1 : ((str l).toList == (str l).toList) = true := by simp
              have e2 : ((str l).toList != (str l).toList) = false := by simp
              go_wp2_with fail
              refine (D1.out _ _ (L.getQ (by simp)) (hTw.mono L.below)).mono ?_
              rintro e w44 ⟨rfl, be⟩
              replace L := L.step be
              clear j0 j1 j2 be
              go_wp2_with fail
              go_roundw
              case rel => exact ⟨1, by go_num, by omega, hbe.trans (L.below.mono hbs)⟩
              case measure => simp [intOf]
            · have hE0 : (E == 0) = false := by rw [beq_eq_false_iff_ne]; exact h0
              clear HTX hE h0
              go_wp2_with fail
              go_roundw
              case rel => exact ⟨1, by go_num, by omega, hbe.trans (L.below.mono hbs)⟩
              case measure => simp [intOf]
          · have x0 := cell_of_row _ gs 1 _ _ _ hr
            simp only [List.getElem?_toArray, List.getElem?_cons_zero, List.getElem?_cons_succ] at x0
            clear hr
            have P1 := Lib.hid (fun W => pparse_any l1 W hb1 (Nat.le_trans HL1.out (by omega)))
            have P2 := Lib.hid (fun W => rparse7_any l1 W hb1 (Nat.le_trans HL1.out (by omega)))
            have HTX := Lib.hid (fun h : errD l1 = 0 => text_dec h)
            have hE : 0 ≤ errD l1 ∧ errD l1 ≤ 7 := by unfold errD; (repeat' split) <;> omega
            obtain ⟨E, hEe⟩ : ∃ E, errD l1 = E := ⟨_, rfl⟩
            rw [hEe] at P1 P2 HTX hE
            generalize numD l1 = rn at *
            generalize denD l1 = rd at *
            have S1 := Lib.hid (fun v u W k1 k2 => same7_yes rn rd v u W k1 k2)
            have hE1 : (E == E) = true := by simp
            have hE2 : (E != E) = false := by simp
            clear hEe
            go_wp2_with fail
            clear x0
            refine (P1.out _).mono ?_
            rintro e w41 ⟨v, rfl, iq, be⟩
            have L := ((Lq.mk0 _).step be).q iq
            obtain ⟨A8, c8, B8, d8, rfl, _, _, _⟩ := iq.form
            clear iq be
            replace L := L.varQ w41.heap.size rfl (ng rn) A8 B8 (zl rn) c8 (len rd) d8
            have k0 := L.b0.c30
            have k1 := L.b0.c31
            have k2 := L.b0.c32
            go_wp2_with fail
            obtain ⟨ga, hga⟩ : ∃ ga, w41.heap.size = ga := ⟨_, rfl⟩
            rw [hga] at L k0 k1 k2 ⊢
            clear hga
            refine (P2.out _).mono ?_
            rintro e w42 ⟨v, rfl, iq, be⟩
            clear k0 k1 k2
            replace L := (L.step be).q iq
            obtain ⟨A9, c9, B9, d9, rfl, _, _, _⟩ := iq.form
            clear iq be
            replace L := L.varQ w42.heap.size rfl (ng rn) A9 B9 (zl rn) c9 (len rd) d9
            have k0 := L.b0.c30
            have k1 := L.b0.c31
            have k2 := L.b0.c32
            have j0 := L.tl.b0.c30
            have j1 := L.tl.b0.c31
            have j2 := L.tl.b0.c32
            go_wp2_with fail
            obtain ⟨gb, hgb⟩ : ∃ gb, w42.heap.size = gb := ⟨_, rfl⟩
            rw [hgb] at L k0 k1 k2 ⊢
            clear hgb
            refine (S1.out _ _ _ (L.getQ (by simp)) (L.getQ (by simp))).mono ?_
            rintro e w43 ⟨rfl, be⟩
            replace L := L.step be
            clear k0 k1 k2 j0 j1 j2 be P1 P2 S1
            have j0 := L.tl.b0.c30
            have j1 := L.tl.b0.c31
            have j2 := L.tl.b0.c32
            by_cases h0 : E = 0
            · obtain ⟨t1, t2, t3, u, f, t4, t5⟩ := HTX.out h0
              have hd := fun v W k1 hT => pdec_yes rn rd u f v W k1 t2 t3 t1 hT t4
              rw [t5] at hd
              have D1 := Lib.hid hd
              subst h0
              clear HTX t1 t2 t3 t4 t5 hd hE
              have e1 : ((str l1).toList == (str l1).toList) = true := by simp
              have e2 : ((str l1).toList != (str l1).toList) = false := by simp
              go_wp2_with fail
              refine (D1.out _ _ (L.getQ (by simp)) (hTw.mono L.below)).mono ?_
              rintro e w44 ⟨rfl, be⟩
              replace L := L.step be
              clear j0 j1 j2 be
              go_wp2_with fail
              go_roundw
              case rel => exact ⟨2, by go_num, by omega, hbe.trans (L.below.mono hbs)⟩
              case measure => simp [intOf]
            · have hE0 : (E == 0) = false := by rw [beq_eq_false_iff_ne]; exact h0
              clear HTX hE h0
              go_wp2_with fail
              go_roundw
              case rel => exact ⟨2, by go_num, by omega, hbe.trans (L.below.mono hbs)⟩
              case measure => simp [intOf]
          · go_wp2_with fail
            go_ret
            exact ⟨rfl, HB0.out.trans (hbe.mono hwU)⟩
      · have hst := hown.store (j := j) (show 55 < 256 by omega)
        rw [sevens_step n j hjn] at hst
        have hcj := hown.cell hjn
        have hfj := hown.free j
        have hb5 := hbe.setCell (p := ⟨g, j, none⟩) hs1 (.int .u8 55)
        have i0 : (0 : Int) ≤ (j : Int) := by omega
        have i1 : (j : Int) < (n : Int) := by omega
        clear hown
        go_wp2_with fail
        go_roundw
        case rel => exact ⟨j + 1, by go_num, by omega, hst, hb5⟩
        case measure => simp [intOf]; omega

end Go.Proofs.YtbndgggjfjdfbabGreatDoor
