/- The walk of DecimalLong: whatever the input, the law returns true and turns nothing that was there. -/
import Derived.Test.YtejdmmnhnbmimaaDoorAwake6
import Derived.Test.YtejdmmnhnbmimaaDoorBaseR
namespace Go.Proofs.YtejdmmnhnbmimaaDoor
open Go.RowKit
set_option linter.unusedVariables false
set_option linter.unusedSimpArgs false
set_option maxRecDepth 100000
attribute [local go_sem ↓] Go.wp_at_zero Go.wp_at_succ

theorem not_dec {d : Nat} (h : ¬ (48 ≤ d ∧ d ≤ 57)) : isD d = false := decide_eq_false h
/-- A text whose last byte is no digit is refused, with a sign and without. -/
theorem bad_last {S : List Nat} {n d : Nat} (hn : S.length = n + 1) (hl : n + 1 ≤ 20001) (h2 : 1 ≤ n) (h : nth S n = d) (hd : ¬ (48 ≤ d ∧ d ≤ 57)) : errP S = 6 ∧ errN S = 6 := by
  have h1 : good S = false := by
    have h3 : S.all isD = false := not_all (k := n) (by omega) (by rw [h]; exact not_dec hd)
    cases hg : good S
    · rfl
    · rw [good_all hg] at h3; cases h3
  have h4 : good (bod S) = false := by
    unfold bod
    split
    · have h3 : (S.drop 1).all isD = false := not_all (k := n - 1) (by rw [List.length_drop]; omega) (by
        have e : nth (S.drop 1) (n - 1) = nth S n := by rw [nth_eq, nth_eq, List.getElem?_drop, show 1 + (n - 1) = n from by omega]
        rw [e, h]; exact not_dec hd)
      cases hg : good (S.drop 1)
      · rfl
      · rw [good_all hg] at h3; cases h3
    · exact h1
  exact ⟨(errP_bad (by omega) (okP_good h4)).1, (errN_bad (by omega) h1).1⟩
theorem long_any {S : List Nat} (h : 20001 < S.length) : errP S = 7 ∧ errN S = 7 := ⟨(errP_long h).1, (errN_long h).1⟩
/-- What stands in the row when k places are filled. -/
theorem ones_step (n k : Nat) (h : k < n) : (List.replicate k 49 ++ List.replicate (n - k) 0).set k 49 = List.replicate (k + 1) 49 ++ List.replicate (n - (k + 1)) 0 := by
  have e : n - k = (n - (k + 1)) + 1 := by omega
  rw [e, List.replicate_succ, List.set_append_right _ _ (by simp)]
  rw [List.length_replicate, Nat.sub_self, List.set_cons_zero, List.replicate_succ', List.append_assoc]
  rfl

set_option maxHeartbeats 2000000 in
theorem walk_DecimalLong (a0 a1 : Int) (bn : Bool) (w : World) (h0 : -9223372036854775808 ≤ a0 ∧ a0 ≤ 9223372036854775807) (h1 : 0 ≤ a1 ∧ a1 ≤ 255) :
    Calls Tryd.prog 6 #[.int .i64 a0, .int .u8 a1, .bool bn] w (fun e w' => e = .returned (.bool true) ∧ Below w.heap.size w w') := by
  obtain ⟨d, rfl⟩ : ∃ d : Nat, a1 = d := ⟨a1.toNat, by omega⟩
  obtain ⟨m, hm⟩ : ∃ m : Nat, a0 % 6 = (m : Int) := ⟨(a0 % 6).toNat, by omega⟩
  have hm6 : m < 6 := by omega
  have hd : d < 256 := by omega
  have h6 := fun W => mod_any a0 6 W (by omega) (by omega) h0.1 h0.2
  rw [hm] at h6
  have H6 := Lib.hid h6
  obtain ⟨n, hn⟩ : ∃ n : Nat, n = 19998 + m := ⟨_, rfl⟩
  have en : 19998 + (m : Int) = (n : Int) := by omega
  have hn1 : ¬ n < 19998 := by omega
  have hn2 : ¬ 20003 < n := by omega
  clear h6 hm h0 h1 hn
  go_enter Tryd.func6, Tryd.ntmps6
  go_wp2_with fail
  refine (awake6_any _).mono ?_
  rintro e w1 ⟨rfl, b1⟩
  go_wp2_with fail
  refine (H6.out _).mono ?_
  rintro e w' ⟨rfl, rfl⟩
  have hs1 := b1.size
  go_wp2_with (at_make; refine wp_mkB _ rfl _ _ rfl w.heap.size _ _ n rfl rfl rfl rfl (by omega) hs1 ?_)
  intro w2 o2 g2
  have b2 := b1.grown g2 (by omega) (fun k h => by cases h)
  obtain ⟨g, hg⟩ : ∃ g, w1.heap.size = g := ⟨_, rfl⟩
  rw [hg] at o2 hs1 ⊢
  clear hg g2 en
  go_wp2_with fail
  go_loopw [8, 27] (fun _ i wr => ∃ (k : Nat), i = .int .i64 k ∧ k ≤ n ∧ OwnB wr w.heap.size (.slice (some ⟨g, 0, none⟩) n n) (List.replicate k 49 ++ List.replicate (n - k) 0) ∧ Below w.heap.size w wr) (fun _ i _ => n - (intOf i).toNat)
  case atStart => exact ⟨0, rfl, by omega, o2, b2⟩
  case round =>
    obtain ⟨k, rfl, hk, hown, hbe⟩ := hrel
    clear o2
    rcases Nat.eq_or_lt_of_le hk with rfl | hkn
    · obtain ⟨p, rfl⟩ : ∃ p, k = p + 1 := ⟨k - 1, by omega⟩
      rw [Nat.sub_self, List.replicate_zero, List.append_nil] at hown
      have hcp := hown.cell (j := p) (by omega)
      have hfp := hown.free p
      have hst := hown.store (j := p) hd
      have hp1 : ¬ p < 19997 := by omega
      have hp2 : ¬ 20002 < p := by omega
      clear hn1 hn2 hk
      have e19 : (p : Int) + 1 - 1 = (p : Int) := by omega
      cases bn
      · have hneg : True := trivial
        clear hneg
        have hS : ((List.replicate (p + 1) 49).set p d).length = p + 1 := by simp
        have hSp : nth ((List.replicate (p + 1) 49).set p d) p = d := by
          rw [nth_set]
          rw [if_pos ⟨rfl, by simp⟩]
        have hSb : Byt ((List.replicate (p + 1) 49).set p d) := hst.byt
        have hcv := hst.conv
        have hb5 := hbe.setCell (p := ⟨g, p, none⟩) hs1 (.int .u8 (d : Int))
        generalize (List.replicate (p + 1) 49).set p d = S at *
        have H1 := Lib.hid (fun W => parse_any S W hSb (by omega))
        have H2 := Lib.hid (fun W => natural_any S W hSb (by omega))
        have L := Lz.step (Lz.mk0 w) hb5
        clear hst hown hbe hb5
        by_cases hlong : ¬ p + 1 ≤ 20001
        · have hdec : decide ((20001 : Int) < (p : Int) + 1) = true := decide_eq_true (by omega)
          obtain ⟨e1, e2⟩ := long_any (S := S) (by omega)
          rw [e1] at H1
          rw [e2] at H2
          generalize valP S = z at *
          clear e1 e2 hS hSp hSb
          go_wp2_with fail
          refine (H1.out _).mono ?_
          rintro e w3 ⟨v3, rfl, iz, be⟩
          obtain ⟨A3, c3, rfl, _⟩ := iz.form
          replace L := L.step be
          replace L := L.box w3.heap.size rfl (ng z) A3 (zl z) c3
          go_wp2_with fail
          refine (H2.out _).mono ?_
          rintro e w4 ⟨v4, rfl, _, be2⟩
          replace L := L.step be2
          go_wp2_with fail
          go_ret
          exact ⟨rfl, L.below⟩
        · have hshort : ¬ 20001 < p + 1 := by omega
          have hdec : decide ((20001 : Int) < (p : Int) + 1) = false := decide_eq_false (by omega)
          clear hlong
          by_cases hdig : 48 ≤ d ∧ d ≤ 57
          · obtain ⟨hd1, hd2⟩ := hdig
            clear H1 H2 hS hSp hSb
            go_wp2_with fail
            go_ret
            exact ⟨rfl, L.below⟩
          · obtain ⟨e1, e2⟩ := bad_last hS (by omega) (by omega) hSp hdig
            rw [e1] at H1
            rw [e2] at H2
            generalize valP S = z at *
            clear e1 e2 hS hSp hSb
            rcases (show d < 48 ∨ 57 < d by omega) with hdd | hdd
            · clear hdig
              go_wp2_with fail
              refine (H1.out _).mono ?_
              rintro e w3 ⟨v3, rfl, iz, be⟩
              obtain ⟨A3, c3, rfl, _⟩ := iz.form
              replace L := L.step be
              replace L := L.box w3.heap.size rfl (ng z) A3 (zl z) c3
              go_wp2_with fail
              refine (H2.out _).mono ?_
              rintro e w4 ⟨v4, rfl, _, be2⟩
              replace L := L.step be2
              go_wp2_with fail
              go_ret
              exact ⟨rfl, L.below⟩
            · clear hdig
              go_wp2_with fail
              refine (H1.out _).mono ?_
              rintro e w3 ⟨v3, rfl, iz, be⟩
              obtain ⟨A3, c3, rfl, _⟩ := iz.form
              replace L := L.step be
              replace L := L.box w3.heap.size rfl (ng z) A3 (zl z) c3
              go_wp2_with fail
              refine (H2.out _).mono ?_
              rintro e w4 ⟨v4, rfl, _, be2⟩
              replace L := L.step be2
              go_wp2_with fail
              go_ret
              exact ⟨rfl, L.below⟩
      · have hc0 := hst.cell (j := 0) (by omega)
        have hf0 := hst.free 0
        have hst2 := hst.store (j := 0) (x := 45) (by omega)
        rw [show ((45 : Nat) : Int) = 45 from rfl] at hst2
        have hS : (((List.replicate (p + 1) 49).set p d).set 0 45).length = p + 1 := by simp
        have hSp : nth (((List.replicate (p + 1) 49).set p d).set 0 45) p = d := by
          rw [nth_set, if_neg (by omega), nth_set]
          rw [if_pos ⟨rfl, by simp⟩]
        have hSb : Byt (((List.replicate (p + 1) 49).set p d).set 0 45) := hst2.byt
        have hcv := hst2.conv
        have hb5 := (hbe.setCell (p := ⟨g, p, none⟩) hs1 (.int .u8 (d : Int))).setCell (p := ⟨g, 0, none⟩) hs1 (.int .u8 45)
        generalize ((List.replicate (p + 1) 49).set p d).set 0 45 = S at *
        have H1 := Lib.hid (fun W => parse_any S W hSb (by omega))
        have H2 := Lib.hid (fun W => natural_any S W hSb (by omega))
        have L := Lz.step (Lz.mk0 w) hb5
        clear hst hst2 hown hbe hb5
        by_cases hlong : ¬ p + 1 ≤ 20001
        · have hdec : decide ((20001 : Int) < (p : Int) + 1) = true := decide_eq_true (by omega)
          obtain ⟨e1, e2⟩ := long_any (S := S) (by omega)
          rw [e1] at H1
          rw [e2] at H2
          generalize valP S = z at *
          clear e1 e2 hS hSp hSb
          go_wp2_with fail
          refine (H1.out _).mono ?_
          rintro e w3 ⟨v3, rfl, iz, be⟩
          obtain ⟨A3, c3, rfl, _⟩ := iz.form
          replace L := L.step be
          replace L := L.box w3.heap.size rfl (ng z) A3 (zl z) c3
          go_wp2_with fail
          refine (H2.out _).mono ?_
          rintro e w4 ⟨v4, rfl, _, be2⟩
          replace L := L.step be2
          go_wp2_with fail
          go_ret
          exact ⟨rfl, L.below⟩
        · have hshort : ¬ 20001 < p + 1 := by omega
          have hdec : decide ((20001 : Int) < (p : Int) + 1) = false := decide_eq_false (by omega)
          clear hlong
          by_cases hdig : 48 ≤ d ∧ d ≤ 57
          · obtain ⟨hd1, hd2⟩ := hdig
            clear H1 H2 hS hSp hSb
            go_wp2_with fail
            go_ret
            exact ⟨rfl, L.below⟩
          · obtain ⟨e1, e2⟩ := bad_last hS (by omega) (by omega) hSp hdig
            rw [e1] at H1
            rw [e2] at H2
            generalize valP S = z at *
            clear e1 e2 hS hSp hSb
            rcases (show d < 48 ∨ 57 < d by omega) with hdd | hdd
            · clear hdig
              go_wp2_with fail
              refine (H1.out _).mono ?_
              rintro e w3 ⟨v3, rfl, iz, be⟩
              obtain ⟨A3, c3, rfl, _⟩ := iz.form
              replace L := L.step be
              replace L := L.box w3.heap.size rfl (ng z) A3 (zl z) c3
              go_wp2_with fail
              refine (H2.out _).mono ?_
              rintro e w4 ⟨v4, rfl, _, be2⟩
              replace L := L.step be2
              go_wp2_with fail
              go_ret
              exact ⟨rfl, L.below⟩
            · clear hdig
              go_wp2_with fail
              refine (H1.out _).mono ?_
              rintro e w3 ⟨v3, rfl, iz, be⟩
              obtain ⟨A3, c3, rfl, _⟩ := iz.form
              replace L := L.step be
              replace L := L.box w3.heap.size rfl (ng z) A3 (zl z) c3
              go_wp2_with fail
              refine (H2.out _).mono ?_
              rintro e w4 ⟨v4, rfl, _, be2⟩
              replace L := L.step be2
              go_wp2_with fail
              go_ret
              exact ⟨rfl, L.below⟩
    · have hc := hown.cell hkn
      have hf := hown.free k
      have hst := hown.store (j := k) (x := 49) (by omega)
      rw [ones_step n k hkn] at hst
      have HST := Lib.hid hst
      have hb3 := hbe.setCell (p := ⟨g, k, none⟩) hs1 (.int .u8 ((49 : Nat) : Int))
      clear hst hown
      go_wp2_with fail
      go_roundw
      case rel => exact ⟨k + 1, by go_num, by omega, HST.out, hb3⟩
      case measure => simp [intOf]; omega

end Go.Proofs.YtejdmmnhnbmimaaDoor
