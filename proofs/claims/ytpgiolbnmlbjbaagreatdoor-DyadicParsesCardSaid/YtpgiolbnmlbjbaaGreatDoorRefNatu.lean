/- The reference's Natural. -/
import Derived.Test.YtpgiolbnmlbjbaaGreatDoorNatu
import Derived.Test.YtpgiolbnmlbjbaaGreatDoorHexMath
import Derived.Test.YtpgiolbnmlbjbaaGreatDoorBaseP
namespace Go.Proofs.YtpgiolbnmlbjbaaGreatDoor
open Go.RowKit
set_option linter.unusedVariables false
set_option linter.unusedSimpArgs false
set_option maxRecDepth 100000

theorem all_takeD {l : List Nat} {k : Nat} (h : (l.take k).all isD = true) (hk : k < l.length) (hp : isD (nth l k) = true) : (l.take (k + 1)).all isD = true := all_take h hk hp
theorem good_nil : good [] = false := rfl
theorem good_lead {l : List Nat} (h : 1 < l.length) (h2 : nth l 0 = 48) : good l = false := by
  unfold good
  rw [decide_eq_false (show ¬ l = [48] from fun e => by rw [e] at h; simp at h), decide_eq_false (show ¬ nth l 0 ≠ 48 from fun e => e h2), Bool.false_and, Bool.and_false]
  rfl
theorem good_rest {l : List Nat} (h : l ≠ []) (h2 : l.length = 1 ∨ nth l 0 ≠ 48) : good l = l.all isD := by
  unfold good
  by_cases h1 : l = [48]
  · subst h1; rfl
  · have h3 : nth l 0 ≠ 48 := by
      rcases h2 with h2 | h2
      · intro e
        apply h1
        match l, h2 with
        | [a], _ =>
          rw [nth_eq] at e
          have : a = 48 := e
          rw [this]
      · exact h2
    rw [decide_eq_false h1, decide_eq_true h, decide_eq_true h3, Bool.false_or, Bool.true_and, Bool.true_and]

set_option maxHeartbeats 1000000 in
theorem rnatural_any (l : List Nat) (w : World) (hb : Byt l) (hl : l.length ≤ 1000000) :
    Calls Tryz.prog 123 #[.string (str l)] w (RetNE w (valN l) (errN l)) := by
  have hsz := str_size l
  obtain ⟨n, hn⟩ : ∃ n, l.length = n := ⟨_, rfl⟩
  rw [hn] at hsz hl
  have HN := Lib.hid hn
  have hq1 : ((str l).toList == []) = decide (l = []) := by rw [← str_eql hb byt_nil, str_toList []]; rfl
  by_cases hlong : 20001 < n
  · obtain ⟨e1, e2⟩ := errN_long (l := l) (by rw [HN.out]; exact hlong)
    rw [e1, e2]
    clear e1 e2 hq1 hn
    go_enter Tryz.func123, Tryz.ntmps123
    go_wp2_with fail
    go_ret2
    exact ⟨_, rfl, IsN.zero _, Below.refl _ _⟩
  · by_cases hnil : l = []
    · rw [decide_eq_true hnil] at hq1
      obtain ⟨e1, e2⟩ := errN_bad (l := l) (by rw [HN.out]; omega) (by rw [hnil]; exact good_nil)
      rw [e1, e2]
      clear e1 e2 hn hnil
      go_enter Tryz.func123, Tryz.ntmps123
      go_wp2_with fail
      go_ret2
      exact ⟨_, rfl, IsN.zero _, Below.refl _ _⟩
    · rw [decide_eq_false hnil] at hq1
      have hn0 : 0 < n := by rw [← hn]; exact List.length_pos_iff.2 hnil
      have hget0 : ∀ h, ((str l)[0]'h).toNat = nth l 0 := fun h => str_get hb 0 h
      obtain ⟨c0, hc0⟩ : ∃ c0, nth l 0 = c0 := ⟨_, rfl⟩
      rw [hc0] at hget0
      by_cases h1 : n = 1
      · have HG := Lib.hid (good_rest hnil (.inl (hn.trans h1)))
        clear hc0 hget0 hnil hn
        go_enter Tryz.func123, Tryz.ntmps123
        go_wp2_with fail
        go_loopw [4, 5] (fun a i wr => ∃ (m x : Nat), i = .int .i64 m ∧ m ≤ n ∧ Hid (x = num (l.take m) ∧ (l.take m).all isD = true) ∧ IsN wr a x ∧ Below w.heap.size w wr) (fun _ i _ => n - (intOf i).toNat)
        case atStart => exact ⟨0, 0, rfl, by omega, ⟨rfl, rfl⟩, IsN.zero _, Below.refl _ _⟩
        case round =>
          obtain ⟨m, x, rfl, hm, HP, hN, hbe⟩ := hrel
          have hbs := hbe.size
          rcases Nat.eq_or_lt_of_le hm with rfl | hmn
          · have hE : l.take m = l := List.take_of_length_le (by rw [HN.out]; exact Nat.le_refl _)
            have hP := HP.out
            rw [hE] at hP
            obtain ⟨e1, e2⟩ := errN_good (l := l) (by rw [HN.out]; omega) (by rw [HG.out]; exact hP.2)
            have HE1 := Lib.hid e1
            have HE2 := Lib.hid (show valN l = x by rw [e2, ← hP.1])
            clear hE hP e1 e2
            go_wp2_with fail
            refine bodyPost_ret (v := .tuple #[_, .int .i64 0]) (by simp [results, Tryz.results123, go_sem]; rfl) rfl ?_
            exact ⟨_, by rw [HE1.out], by rw [HE2.out]; exact hN, hbe⟩
          · obtain ⟨c, hc⟩ : ∃ c, nth l m = c := ⟨_, rfl⟩
            have hget : ∀ h, ((str l)[m]'h).toNat = c := fun h => (str_get hb m h).trans hc
            have hlt : m < l.length := by rw [HN.out]; exact hmn
            by_cases hcd : isD c = true
            · have hcc := hcd
              unfold isD at hcc
              rw [decide_eq_true_iff] at hcc
              obtain ⟨d, hd⟩ : ∃ d, c = 48 + d := ⟨c - 48, by omega⟩
              subst hd
              have hd10 : d < 10 := by omega
              have hx : len x ≤ 1000000 := by
                rw [HP.out.1]
                exact Nat.le_trans (len_num (num_lt HP.out.2)) (by rw [List.length_take]; omega)
              have HS := Lib.hid (fun W (hW : Below wr.heap.size wr W) => rsmall_any x 10 d _ W (hN.mono hW) (by omega) (by omega) (by omega))
              have HP2 := Lib.hid (show x * 10 + d = num (l.take (m + 1)) ∧ (l.take (m + 1)).all isD = true from
                ⟨by rw [take_snoc hlt, num_snoc, hc, ← HP.out.1]; omega, all_takeD HP.out.2 hlt (by rw [hc]; exact hcd)⟩)
              have e1 : 48 + (d : Int) - 48 = (d : Int) := by omega
              clear hcd hcc hc hlt hx hN
              go_wp2_with fail
              refine (HS.out _ (Below.refl _ _)).mono ?_
              rintro e w2 ⟨v, rfl, o⟩
              go_wp2_with fail
              go_roundw
              case rel => exact ⟨m + 1, _, by go_num, by omega, HP2.out, o.isN, hbe.trans (o.below.mono hbs)⟩
              case measure => simp [intOf]; omega
            · have hcd' : isD c = false := by simpa using hcd
              obtain ⟨e1, e2⟩ := errN_bad (l := l) (by rw [HN.out]; omega) (by rw [HG.out]; exact not_all hlt (by rw [hc]; exact hcd'))
              unfold isD at hcd'
              rw [decide_eq_false_iff_not] at hcd'
              have hc2 : c < 256 := by rw [← hc]; exact byt_get hb m
              have HE1 := Lib.hid e1
              have HE2 := Lib.hid e2
              clear hc hlt hN e1 e2 hcd
              rcases (show c < 48 ∨ 57 < c by omega) with h48 | h57
              · go_wp2_with fail
                go_ret2
                exact ⟨.slice none 0 0, by rw [HE1.out]; rfl, by rw [HE2.out]; exact IsN.zero _, hbe⟩
              · go_wp2_with fail
                go_ret2
                exact ⟨.slice none 0 0, by rw [HE1.out]; rfl, by rw [HE2.out]; exact IsN.zero _, hbe⟩
      · have h1n : 1 < n := by omega
        by_cases h48 : c0 = 48
        · obtain ⟨e1, e2⟩ := errN_bad (l := l) (by rw [HN.out]; omega) (good_lead (by rw [HN.out]; exact h1n) (hc0.trans h48))
          rw [e1, e2]
          subst h48
          clear e1 e2 hn hnil hc0
          go_enter Tryz.func123, Tryz.ntmps123
          go_wp2_with fail
          go_ret2
          exact ⟨_, rfl, IsN.zero _, Below.refl _ _⟩
        · have HG := Lib.hid (good_rest hnil (.inr (by rw [hc0]; exact h48)))
          have hcb : ((c0 : Int) == 48) = false := by simp; omega
          clear hc0 hnil hn h1 h48
          go_enter Tryz.func123, Tryz.ntmps123
          go_wp2_with fail
          go_loopw [4, 5] (fun a i wr => ∃ (m x : Nat), i = .int .i64 m ∧ m ≤ n ∧ Hid (x = num (l.take m) ∧ (l.take m).all isD = true) ∧ IsN wr a x ∧ Below w.heap.size w wr) (fun _ i _ => n - (intOf i).toNat)
          case atStart => exact ⟨0, 0, rfl, by omega, ⟨rfl, rfl⟩, IsN.zero _, Below.refl _ _⟩
          case round =>
            obtain ⟨m, x, rfl, hm, HP, hN, hbe⟩ := hrel
            have hbs := hbe.size
            rcases Nat.eq_or_lt_of_le hm with rfl | hmn
            · have hE : l.take m = l := List.take_of_length_le (by rw [HN.out]; exact Nat.le_refl _)
              have hP := HP.out
              rw [hE] at hP
              obtain ⟨e1, e2⟩ := errN_good (l := l) (by rw [HN.out]; omega) (by rw [HG.out]; exact hP.2)
              have HE1 := Lib.hid e1
              have HE2 := Lib.hid (show valN l = x by rw [e2, ← hP.1])
              clear hE hP e1 e2
              go_wp2_with fail
              refine bodyPost_ret (v := .tuple #[_, .int .i64 0]) (by simp [results, Tryz.results123, go_sem]; rfl) rfl ?_
              exact ⟨_, by rw [HE1.out], by rw [HE2.out]; exact hN, hbe⟩
            · obtain ⟨c, hc⟩ : ∃ c, nth l m = c := ⟨_, rfl⟩
              have hget : ∀ h, ((str l)[m]'h).toNat = c := fun h => (str_get hb m h).trans hc
              have hlt : m < l.length := by rw [HN.out]; exact hmn
              by_cases hcd : isD c = true
              · have hcc := hcd
                unfold isD at hcc
                rw [decide_eq_true_iff] at hcc
                obtain ⟨d, hd⟩ : ∃ d, c = 48 + d := ⟨c - 48, by omega⟩
                subst hd
                have hd10 : d < 10 := by omega
                have hx : len x ≤ 1000000 := by
                  rw [HP.out.1]
                  exact Nat.le_trans (len_num (num_lt HP.out.2)) (by rw [List.length_take]; omega)
                have HS := Lib.hid (fun W (hW : Below wr.heap.size wr W) => rsmall_any x 10 d _ W (hN.mono hW) (by omega) (by omega) (by omega))
                have HP2 := Lib.hid (show x * 10 + d = num (l.take (m + 1)) ∧ (l.take (m + 1)).all isD = true from
                  ⟨by rw [take_snoc hlt, num_snoc, hc, ← HP.out.1]; omega, all_takeD HP.out.2 hlt (by rw [hc]; exact hcd)⟩)
                have e1 : 48 + (d : Int) - 48 = (d : Int) := by omega
                clear hcd hcc hc hlt hx hN
                go_wp2_with fail
                refine (HS.out _ (Below.refl _ _)).mono ?_
                rintro e w2 ⟨v, rfl, o⟩
                go_wp2_with fail
                go_roundw
                case rel => exact ⟨m + 1, _, by go_num, by omega, HP2.out, o.isN, hbe.trans (o.below.mono hbs)⟩
                case measure => simp [intOf]; omega
              · have hcd' : isD c = false := by simpa using hcd
                obtain ⟨e1, e2⟩ := errN_bad (l := l) (by rw [HN.out]; omega) (by rw [HG.out]; exact not_all hlt (by rw [hc]; exact hcd'))
                unfold isD at hcd'
                rw [decide_eq_false_iff_not] at hcd'
                have hc2 : c < 256 := by rw [← hc]; exact byt_get hb m
                have HE1 := Lib.hid e1
                have HE2 := Lib.hid e2
                clear hc hlt hN e1 e2 hcd
                rcases (show c < 48 ∨ 57 < c by omega) with h48 | h57
                · go_wp2_with fail
                  go_ret2
                  exact ⟨.slice none 0 0, by rw [HE1.out]; rfl, by rw [HE2.out]; exact IsN.zero _, hbe⟩
                · go_wp2_with fail
                  go_ret2
                  exact ⟨.slice none 0 0, by rw [HE1.out]; rfl, by rw [HE2.out]; exact IsN.zero _, hbe⟩

end Go.Proofs.YtpgiolbnmlbjbaaGreatDoor
