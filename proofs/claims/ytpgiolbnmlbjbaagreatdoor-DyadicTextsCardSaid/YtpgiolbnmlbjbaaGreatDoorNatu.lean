/- decimal.areDigits and Natural. -/
import Derived.Test.YtpgiolbnmlbjbaaGreatDoorTrim
import Derived.Test.YtpgiolbnmlbjbaaGreatDoorRev
import Derived.Test.YtpgiolbnmlbjbaaGreatDoorBaseN
import Derived.Test.YtpgiolbnmlbjbaaGreatDoorBaseI
namespace Go.Proofs.YtpgiolbnmlbjbaaGreatDoor
open Go.RowKit
set_option linter.unusedVariables false
set_option linter.unusedSimpArgs false
set_option maxRecDepth 100000

theorem byt48 : Byt [48] := byt_one (by omega)
set_option maxHeartbeats 400000 in
theorem areDigits_any (l : List Nat) (w : World) (hb : Byt l) (hl : l.length ≤ 1000000) :
    Calls Tryz.prog 147 #[.string (str l)] w (RetB w (good l)) := by
  have hsz := str_size l
  have hq0 : ((str l).toList == [48]) = decide (l = [48]) := by rw [← str_eql hb byt48, str_toList [48]]; rfl
  have hq1 : ((str l).toList == []) = decide (l = []) := by rw [← str_eql hb byt_nil, str_toList []]; rfl
  have HT := Lib.hid (fun W => trim_decs (l := l) W hb hl)
  by_cases h48 : l = [48]
  · subst h48
    rw [show good [48] = true from rfl]
    clear HT
    go_enter Tryz.func147, Tryz.ntmps147
    go_wp2_with fail
    go_ret
    exact ⟨rfl, Below.refl _ _⟩
  · rw [decide_eq_false h48] at hq0
    have hg : good l = (decide (l ≠ []) && (decide (nth l 0 ≠ 48) && l.all isD)) := by unfold good; rw [decide_eq_false h48, Bool.false_or]
    by_cases hnil : l = []
    · subst hnil
      rw [hg]
      clear HT
      go_enter Tryz.func147, Tryz.ntmps147
      go_wp2_with fail
      go_ret
      exact ⟨rfl, Below.refl _ _⟩
    · rw [decide_eq_false hnil] at hq1
      have hpos : 0 < l.length := List.length_pos_iff.2 hnil
      rw [decide_eq_true hnil, Bool.true_and] at hg
      obtain ⟨n, hn⟩ : ∃ n, l.length = n + 1 := ⟨l.length - 1, by omega⟩
      rw [hn] at hsz hpos
      have hget : ∀ h, ((str l)[0]'h).toNat = nth l 0 := fun h => str_get hb 0 h
      obtain ⟨c, hc⟩ : ∃ c, nth l 0 = c := ⟨_, rfl⟩
      rw [hc] at hg hget
      obtain ⟨G, hG⟩ : ∃ G, good l = G := ⟨_, rfl⟩
      rw [hG] at hg ⊢
      have HG := Lib.hid hg
      clear hg hG hc hn
      by_cases h0 : c = 48
      · subst h0
        clear HT
        go_enter Tryz.func147, Tryz.ntmps147
        go_wp2_with fail
        go_ret
        exact ⟨by rw [HG.out]; rfl, Below.refl _ _⟩
      · have hcb : (!((c : Int) == 48)) = true := by simp; omega
        have hcb2 : ((c : Int) == 48) = false := by simp; omega
        have hcb3 : ((c : Int) != 48) = true := by simp; omega
        rw [show decide (c ≠ 48) = true from decide_eq_true h0, Bool.true_and] at HG
        go_enter Tryz.func147, Tryz.ntmps147
        go_wp2_with fail
        refine (HT.out _).mono ?_
        rintro e w' ⟨r, rfl, hr, be⟩
        go_wp2_with fail
        go_ret
        exact ⟨by rw [HG.out]; rfl, be⟩

/-- How much of a text has been joined behind m of its n bytes. -/
def fl (n m : Nat) : Nat := if m < n % 9 then 0 else m - (m - n % 9) % 9
theorem fl_le (n m : Nat) : fl n m ≤ m := by unfold fl; split <;> omega
theorem fl_small {n m : Nat} (h : m ≤ n) : m - fl n m ≤ 8 := by unfold fl; split <;> omega
theorem fl_end (n : Nat) : fl n n = n := by unfold fl; split <;> omega
theorem fl_join {n m : Nat} (h : m < n) (h0 : (n - 1 - m) % 9 = 0) : fl n (m + 1) = m + 1 ∧ (fl n m = 0 ∨ m + 1 - fl n m = 9) := by unfold fl; split <;> split <;> omega
theorem fl_stay {n m : Nat} (h : m < n) (h0 : (n - 1 - m) % 9 ≠ 0) : fl n (m + 1) = fl n m := by unfold fl; split <;> split <;> omega
/-- What the loop of Natural holds behind m bytes. -/
def PartIs (l : List Nat) (m a p : Nat) : Prop := a = num (l.take (fl l.length m)) ∧ p = num ((l.take m).drop (fl l.length m))
theorem partIs_zero (l : List Nat) : PartIs l 0 0 0 := by
  have h : fl l.length 0 = 0 := Nat.le_zero.1 (fl_le _ 0)
  exact ⟨by rw [h]; rfl, by rw [h]; rfl⟩
theorem partIs_lt {l : List Nat} {m a p : Nat} (h : PartIs l m a p) (hm : m ≤ l.length) (hd : l.all isD = true) : p < 100000000 := by
  rw [h.2]
  have h1 : ((l.take m).drop (fl l.length m)).all isD = true := by
    rw [List.all_eq_true] at hd ⊢
    exact fun x hx => hd x (List.mem_of_mem_take (List.mem_of_mem_drop hx))
  refine Nat.lt_of_lt_of_le (num_lt h1) (Nat.le_trans (Nat.pow_le_pow_right (by decide) (show _ ≤ 8 from ?_)) (by decide))
  rw [List.length_drop, List.length_take, Nat.min_eq_left hm]
  exact fl_small hm
theorem part_next {l : List Nat} {m a p c : Nat} (h : PartIs l m a p) (hm : m < l.length) (hc : nth l m = c) : p * 10 + (c - 48) = num ((l.take (m + 1)).drop (fl l.length m)) := by
  rw [take_snoc hm, List.drop_append_of_le_length (by rw [List.length_take, Nat.min_eq_left (by omega)]; exact fl_le _ _), num_snoc, hc, ← h.2]
  omega
theorem partIs_stay {l : List Nat} {m a p c : Nat} (h : PartIs l m a p) (hm : m < l.length) (hc : nth l m = c) (h0 : (l.length - 1 - m) % 9 ≠ 0) : PartIs l (m + 1) a (p * 10 + (c - 48)) := by
  refine ⟨by rw [fl_stay hm h0]; exact h.1, ?_⟩
  rw [part_next h hm hc, fl_stay hm h0]
theorem partIs_join {l : List Nat} {m a p c : Nat} (h : PartIs l m a p) (hm : m < l.length) (hc : nth l m = c) (h0 : (l.length - 1 - m) % 9 = 0) : PartIs l (m + 1) (a * 1000000000 + (p * 10 + (c - 48))) 0 := by
  obtain ⟨e1, e2⟩ := fl_join hm h0
  have e3 := part_next h hm hc
  have e4 : num (l.take (m + 1)) = num ((l.take (m + 1)).take (fl l.length m)) * 10 ^ ((l.take (m + 1)).drop (fl l.length m)).length + num ((l.take (m + 1)).drop (fl l.length m)) := by
    rw [← num_append, List.take_append_drop]
  have e5 : (l.take (m + 1)).take (fl l.length m) = l.take (fl l.length m) := by
    rw [List.take_take, Nat.min_eq_left (by have := fl_le l.length m; omega)]
  have e6 : ((l.take (m + 1)).drop (fl l.length m)).length = m + 1 - fl l.length m := by
    rw [List.length_drop, List.length_take, Nat.min_eq_left (by omega)]
  refine ⟨?_, by rw [e1, List.drop_eq_nil_of_le (by rw [List.length_take]; omega)]; rfl⟩
  rw [e1, e4, e5, e6, ← e3, ← h.1]
  rcases e2 with e2 | e2
  · have : a = 0 := by rw [h.1, e2]; rfl
    rw [this, Nat.zero_mul, Nat.zero_mul]
  · rw [e2]
theorem partIs_end {l : List Nat} {a p : Nat} (h : PartIs l l.length a p) : a = num l := by
  rw [h.1, fl_end, List.take_of_length_le (Nat.le_refl _)]
theorem num_take_le {l : List Nat} (h : l.all isD = true) (k n : Nat) (hk : k ≤ n) : num (l.take k) < 10 ^ n := by
  have h1 : (l.take k).all isD = true := by
    rw [List.all_eq_true] at h ⊢
    exact fun x hx => h x (List.mem_of_mem_take hx)
  exact Nat.lt_of_lt_of_le (num_lt h1) (Nat.pow_le_pow_right (by decide) (by rw [List.length_take]; omega))
theorem len_num {x n : Nat} (h : x < 10 ^ n) : len x ≤ n := by
  refine len_le_iff.2 (Nat.lt_of_lt_of_le h (Nat.pow_le_pow_left (by unfold W32; decide) n))

/-- A natural and an error. -/
def RetNE (w : World) (x : Nat) (er : Int) (e : Ending) (w' : World) : Prop := ∃ v, e = .returned (.tuple #[v, .int .i64 er]) ∧ IsN w' v x ∧ Below w.heap.size w w'
theorem errN_long {l : List Nat} (h : 20001 < l.length) : errN l = 7 ∧ valN l = 0 := by unfold errN valN; rw [if_pos h, if_pos h]; exact ⟨rfl, rfl⟩
theorem errN_bad {l : List Nat} (h : l.length ≤ 20001) (hg : good l = false) : errN l = 6 ∧ valN l = 0 := by unfold errN valN; rw [if_neg (by omega : ¬ 20001 < l.length), if_neg (by omega : ¬ 20001 < l.length), hg]; exact ⟨rfl, rfl⟩
theorem errN_good {l : List Nat} (h : l.length ≤ 20001) (hg : good l = true) : errN l = 0 ∧ valN l = num l := by unfold errN valN; rw [if_neg (by omega : ¬ 20001 < l.length), if_neg (by omega : ¬ 20001 < l.length), hg]; exact ⟨rfl, rfl⟩

set_option maxHeartbeats 400000 in
theorem natural_any (l : List Nat) (w : World) (hb : Byt l) (hl : l.length ≤ 1000000) :
    Calls Tryz.prog 133 #[.string (str l)] w (RetNE w (valN l) (errN l)) := by
  have hsz := str_size l
  have HAD := Lib.hid (areDigits_any l w hb hl)
  obtain ⟨n, hn⟩ : ∃ n, l.length = n := ⟨_, rfl⟩
  rw [hn] at hsz hl
  have HN := Lib.hid hn
  clear hn
  by_cases hlong : 20001 < n
  · obtain ⟨e1, e2⟩ := errN_long (l := l) (by rw [HN.out]; exact hlong)
    rw [e1, e2]
    clear HAD e1 e2
    go_enter Tryz.func133, Tryz.ntmps133
    go_wp2_with fail
    go_ret2
    exact ⟨_, rfl, IsN.zero _, Below.refl _ _⟩
  · by_cases hg : good l = true
    · obtain ⟨e1, e2⟩ := errN_good (l := l) (by rw [HN.out]; omega) hg
      rw [e1, e2]
      have HD := Lib.hid (good_all hg)
      rw [hg] at HAD
      clear e1 e2 hg
      go_enter Tryz.func133, Tryz.ntmps133
      go_wp2_with fail
      refine HAD.out.mono ?_
      rintro e w1 ⟨rfl, b1⟩
      go_wp2_with fail
      go_loopw [4, 5, 17] (fun a p i wr => ∃ (m x q : Nat), i = .int .i64 m ∧ m ≤ n ∧ p = .int .u32 q ∧ Hid (PartIs l m x q) ∧ IsN wr a x ∧ Below w.heap.size w wr) (fun _ _ i _ => n - (intOf i).toNat)
      case atStart => exact ⟨0, 0, 0, rfl, by omega, rfl, partIs_zero l, IsN.zero _, b1⟩
      case round =>
        obtain ⟨m, x, q, rfl, hm, rfl, HP, hN, hbe⟩ := hrel
        clear b1
        have hbs := hbe.size
        rcases Nat.eq_or_lt_of_le hm with rfl | hmn
        · have HE := Lib.hid (show x = num l from partIs_end (by rw [HN.out]; exact HP.out))
          go_wp2_with fail
          go_ret2
          exact ⟨_, rfl, by rw [← HE.out]; exact hN, hbe⟩
        · obtain ⟨c, hc⟩ : ∃ c, nth l m = c := ⟨_, rfl⟩
          have hget : ∀ h, ((str l)[m]'h).toNat = c := fun h => (str_get hb m h).trans hc
          have hlt : m < l.length := by rw [HN.out]; exact hmn
          have hcd : isD c = true := by
            have h1 := List.all_eq_true.1 HD.out _ (List.getElem_mem hlt)
            rw [nth_eq, List.getElem?_eq_getElem hlt] at hc
            rw [← hc]
            exact h1
          unfold isD at hcd
          rw [decide_eq_true_iff] at hcd
          have hq := partIs_lt HP.out (by rw [HN.out]; exact hm) HD.out
          obtain ⟨d, hd⟩ : ∃ d, c = 48 + d := ⟨c - 48, by omega⟩
          subst hd
          have hd10 : d < 10 := by omega
          obtain ⟨q2, hq2⟩ : ∃ q2, q2 = q * 10 + d := ⟨_, rfl⟩
          have hq2b : q2 < 1000000000 := by omega
          have HQ := Lib.hid hq2
          have HC := Lib.hid hc
          have HLT := Lib.hid hlt
          obtain ⟨j, hj⟩ : ∃ j, j + 1 + m = n := ⟨n - 1 - m, by omega⟩
          have ej : (n : Int) - 1 - (m : Int) = (j : Int) := by omega
          have e10 : (q : Int) * 10 + (48 + (d : Int) - 48) = (q2 : Int) := by omega
          clear hcd hc hlt hq2
          by_cases h9 : j % 9 = 0
          · have e9 : (j : Int) % 9 = 0 := by omega
            have hx : len x ≤ 1000000 := by
              rw [HP.out.1]
              exact Nat.le_trans (len_num (num_take_le HD.out _ n (Nat.le_trans (fl_le _ _) hm))) hl
            have HS := Lib.hid (fun W (hW : Below wr.heap.size wr W) => small_any x 1000000000 q2 _ W (hN.mono hW) (by omega) (by omega) (by omega))
            have HP2 := Lib.hid (show PartIs l (m + 1) (x * 1000000000 + q2) 0 by
              have h1 := partIs_join HP.out HLT.out HC.out (by rw [HN.out]; omega)
              rw [Nat.add_sub_cancel_left, ← HQ.out] at h1
              exact h1)
            clear hN hx h9
            go_wp2_with fail
            refine (HS.out _ (Below.refl _ _)).mono ?_
            rintro e w2 ⟨v, rfl, o⟩
            go_wp2_with fail
            go_roundw
            case rel => exact ⟨m + 1, _, 0, by go_num, by omega, rfl, HP2.out, o.isN, hbe.trans (o.below.mono hbs)⟩
            case measure => simp [intOf]; omega
          · obtain ⟨r, hr⟩ : ∃ r, r = j % 9 := ⟨_, rfl⟩
            have e9 : (j : Int) % 9 = (r : Int) := by omega
            have e9b : ((r : Int) == 0) = false := by simp; omega
            have HP2 := Lib.hid (show PartIs l (m + 1) x q2 by
              have h1 := partIs_stay HP.out HLT.out HC.out (by rw [HN.out]; omega)
              rw [Nat.add_sub_cancel_left, ← HQ.out] at h1
              exact h1)
            clear hr h9
            go_wp2_with fail
            go_roundw
            case rel => exact ⟨m + 1, x, q2, by go_num, by omega, rfl, HP2.out, hN, hbe⟩
            case measure => simp [intOf]; omega
    · obtain ⟨e1, e2⟩ := errN_bad (l := l) (by rw [HN.out]; omega) (by simpa using hg)
      rw [show good l = false by simpa using hg] at HAD
      rw [e1, e2]
      clear e1 e2 hg
      go_enter Tryz.func133, Tryz.ntmps133
      go_wp2_with fail
      refine HAD.out.mono ?_
      rintro e w1 ⟨rfl, b1⟩
      go_wp2_with fail
      go_ret2
      exact ⟨_, rfl, IsN.zero _, b1⟩

end Go.Proofs.YtpgiolbnmlbjbaaGreatDoor
