/- strings.CutPrefix of a sign; decimal.Parse and Format. -/
import Derived.Test.YtpgiolbnmlbjbaaGreatDoorNatu
import Derived.Test.YtpgiolbnmlbjbaaGreatDoorDigA
import Derived.Test.YtpgiolbnmlbjbaaGreatDoorBaseI
import Derived.Test.YtpgiolbnmlbjbaaGreatDoorBaseJ
namespace Go.Proofs.YtpgiolbnmlbjbaaGreatDoor
open Go.RowKit
set_option linter.unusedVariables false
set_option linter.unusedSimpArgs false
set_option maxRecDepth 100000
attribute [local go_sem ↓] Go.wp_at_zero Go.wp_at_succ

theorem first_is {l : List Nat} (hb : Byt l) : (((str l).extract 0 1).toList == [45]) = sgn l := by
  have e1 : ([45] : List UInt8) = (str [45]).toList := by rw [str_toList]; rfl
  rw [str_extract, e1, str_eql (byt_take (byt_drop hb 0) _) (byt_one (by omega)), Bool.eq_iff_iff, decide_eq_true_iff]
  unfold sgn
  rw [decide_eq_true_iff]
  cases l with
  | nil => constructor <;> intro h <;> revert h <;> decide
  | cons a t =>
    have e2 : nth (a :: t) 0 = a := by rw [nth_eq]; rfl
    rw [e2]
    simp
theorem sgn_nil {l : List Nat} (h : l.length = 0) : sgn l = false := by
  rw [List.eq_nil_of_length_eq_zero h]; rfl
theorem bod_yes {l : List Nat} (h : sgn l = true) : bod l = l.drop 1 := by
  unfold sgn at h; unfold bod; rw [decide_eq_true_iff] at h; rw [if_pos h]
theorem bod_no {l : List Nat} (h : sgn l = false) : bod l = l := by
  unfold sgn at h; unfold bod; rw [decide_eq_false_iff_not] at h; rw [if_neg h]
theorem bod_length (l : List Nat) : (bod l).length ≤ l.length := by
  unfold bod; split
  · rw [List.length_drop]; omega
  · exact Nat.le_refl _
theorem bod_byt {l : List Nat} (h : Byt l) : Byt (bod l) := by
  unfold bod; split
  · exact byt_drop h 1
  · exact h

theorem hasPrefix_any (l : List Nat) (w : World) (hb : Byt l) (hl : l.length ≤ 1000000) :
    Calls Tryz.prog 161 #[.string (str l), .string ⟨#[45]⟩] w fun e w' => e = .returned (.bool (sgn l)) ∧ w = w' := by
  have hsz := str_size l
  have hq := first_is hb
  rcases Nat.eq_zero_or_pos l.length with h0 | h0
  · rw [sgn_nil h0] at hq ⊢
    rw [h0] at hsz
    clear h0 hl
    go_enter Tryz.func161, Tryz.ntmps161
    go_wp2
    go_ret
    exact ⟨rfl, rfl⟩
  · obtain ⟨n, hn⟩ : ∃ n, l.length = n + 1 := ⟨l.length - 1, by omega⟩
    rw [hn] at hsz
    have h63 : n ≤ 1000000 := by omega
    generalize sgn l = S at *
    clear hn h0 hl
    go_enter Tryz.func161, Tryz.ntmps161
    go_wp2
    go_ret
    exact ⟨rfl, rfl⟩

theorem cutLite_any (l : List Nat) (w : World) (hb : Byt l) (hl : l.length ≤ 1000000) :
    Calls Tryz.prog 146 #[.string (str l), .string ⟨#[45]⟩] w fun e w' => e = .returned (.tuple #[.string (str (bod l)), .bool (sgn l)]) ∧ w = w' := by
  have hsz := str_size l
  have H := Lib.hid (hasPrefix_any l w hb hl)
  by_cases hs : sgn l = true
  · have hx : (str l).extract 1 (str l).size = str (bod l) := by
      rw [str_extract, bod_yes hs, List.take_of_length_le (by rw [List.length_drop, str_size]; omega)]
    have hpos : 0 < l.length := by
      rcases Nat.eq_zero_or_pos l.length with h0 | h0
      · rw [sgn_nil h0] at hs; cases hs
      · exact h0
    obtain ⟨n, hn⟩ : ∃ n, l.length = n + 1 := ⟨l.length - 1, by omega⟩
    rw [hn] at hsz
    rw [hsz] at hx
    rw [hs] at H ⊢
    clear hs hn hpos hl
    generalize bod l = bl at *
    go_enter Tryz.func146, Tryz.ntmps146
    go_wp2_with fail
    refine H.out.mono ?_
    rintro e w' ⟨rfl, rfl⟩
    go_wp2_with fail
    go_ret2
    exact ⟨rfl, rfl⟩
  · have hs' : sgn l = false := by simpa using hs
    rw [bod_no hs']
    rw [hs'] at H ⊢
    clear hs hs'
    go_enter Tryz.func146, Tryz.ntmps146
    go_wp2_with fail
    refine H.out.mono ?_
    rintro e w' ⟨rfl, rfl⟩
    go_wp2_with fail
    go_ret2
    exact ⟨rfl, rfl⟩

theorem cut_any (l : List Nat) (w : World) (hb : Byt l) (hl : l.length ≤ 1000000) :
    Calls Tryz.prog 132 #[.string (str l), .string ⟨#[45]⟩] w fun e w' => e = .returned (.tuple #[.string (str (bod l)), .bool (sgn l)]) ∧ w = w' := by
  have H := Lib.hid (cutLite_any l w hb hl)
  generalize bod l = bl at *
  generalize sgn l = S at *
  go_enter Tryz.func132, Tryz.ntmps132
  go_wp2_with fail
  refine H.out.mono ?_
  rintro e w' ⟨rfl, rfl⟩
  go_wp2_with fail
  go_ret2
  exact ⟨rfl, rfl⟩

/-- An integer and an error. -/
def RetZE (w : World) (z : Int) (er : Int) (e : Ending) (w' : World) : Prop := ∃ v, e = .returned (.tuple #[v, .int .i64 er]) ∧ IsZ w' v z ∧ Below w.heap.size w w'
theorem errP_long {l : List Nat} (h : 20001 < l.length) : errP l = 7 ∧ valP l = 0 := by unfold errP valP; rw [if_pos h, if_pos h]; exact ⟨rfl, rfl⟩
theorem errP_bad {l : List Nat} (h : l.length ≤ 20001) (hg : okP l = false) : errP l = 6 ∧ valP l = 0 := by unfold errP valP; rw [if_neg (by omega : ¬ 20001 < l.length), if_neg (by omega : ¬ 20001 < l.length), hg]; exact ⟨rfl, rfl⟩
theorem errP_good {l : List Nat} (h : l.length ≤ 20001) (hg : okP l = true) : errP l = 0 ∧ valP l = sg (sgn l) (num (bod l)) := by unfold errP valP; rw [if_neg (by omega : ¬ 20001 < l.length), if_neg (by omega : ¬ 20001 < l.length), hg]; exact ⟨rfl, rfl⟩
theorem okP_good {l : List Nat} (h : good (bod l) = false) : okP l = false := by unfold okP; rw [h]; rfl
theorem okP_zero {l : List Nat} (h : sgn l = true) (h2 : num (bod l) = 0) : okP l = false := by unfold okP; rw [h, decide_eq_true h2]; exact Bool.and_false _
theorem okP_pos {l : List Nat} (h : good (bod l) = true) (h2 : num (bod l) ≠ 0) : okP l = true := by unfold okP; rw [h, decide_eq_false h2, Bool.and_false]; rfl
theorem okP_nn {l : List Nat} (h : good (bod l) = true) (h2 : sgn l = false) : okP l = true := by unfold okP; rw [h, h2]; rfl

set_option maxHeartbeats 1000000 in
theorem parse_any (l : List Nat) (w : World) (hb : Byt l) (hl : l.length ≤ 1000000) :
    Calls Tryz.prog 118 #[.string (str l)] w (RetZE w (valP l) (errP l)) := by
  have hsz := str_size l
  obtain ⟨n, hn⟩ : ∃ n, l.length = n := ⟨_, rfl⟩
  rw [hn] at hsz
  have HN := Lib.hid hn
  by_cases hlong : 20001 < n
  · obtain ⟨e1, e2⟩ := errP_long (l := l) (by rw [HN.out]; exact hlong)
    rw [e1, e2]
    rw [hn] at hl
    clear e1 e2 hn
    go_enter Tryz.func118, Tryz.ntmps118
    go_wp2_with fail
    have L := (Lz.mk0 w).box (w.heap.size) (by simp) false none 0 0
    exact bodyPost_ret (v := .tuple #[.agg #[.bool false, .slice none 0 0], .int .i64 7]) (by simp [results, Tryz.results118, go_sem]) rfl ⟨_, rfl, isZ_zero _, L.below⟩
  · have hbl := bod_length l
    have HC := Lib.hid (fun W => cut_any l W hb hl)
    have HNA := Lib.hid (fun W => natural_any (bod l) W (bod_byt hb) (by omega))
    have hl2 : l.length ≤ 20001 := by omega
    rw [hn] at hl
    by_cases hg : good (bod l) = true
    · obtain ⟨e1, e2⟩ := errN_good (l := bod l) (by omega) hg
      rw [e1, e2] at HNA
      have hln : len (num (bod l)) ≤ 1000000 := Nat.le_trans (len_num (num_lt (good_all hg))) (by omega)
      by_cases hz : sgn l = true ∧ num (bod l) = 0
      · obtain ⟨e3, e4⟩ := errP_bad hl2 (okP_zero hz.1 hz.2)
        rw [e3, e4]
        rw [hz.1] at HC
        rw [hz.2] at HNA
        clear e1 e2 e3 e4 hz hg hln hl2 hn hbl
        generalize bod l = bl at *
        go_enter Tryz.func118, Tryz.ntmps118
        go_wp2_with fail
        have L := (Lz.mk0 w).box (w.heap.size) (by simp) false none 0 0
        refine (HC.out _).mono ?_
        rintro e w' ⟨rfl, rfl⟩
        go_wp2_with fail
        refine (HNA.out _).mono ?_
        rintro e w2 ⟨v, rfl, hv, be⟩
        replace L := L.step be
        obtain ⟨A, c, rfl⟩ := hv.form
        rw [len_zero] at hv ⊢
        have c00 := L.b0.c0
        have c01 := L.b0.c1
        have f00 := L.b0.fr 0
        have f01 := L.b0.fr 1
        go_wp2_with fail
        have LP := L.put (by omega) (by simp) false none 0 0
        have d0 := LP.b0.c0
        have d1 := LP.b0.c1
        unfold put2 at d0 d1
        exact bodyPost_ret (v := .tuple #[.agg #[.bool false, .slice none 0 0], .int .i64 6]) (by simp [results, Tryz.results118, go_sem, d0, d1]) rfl ⟨_, rfl, isZ_zero _, LP.below⟩
      · by_cases hs : sgn l = true
        · have hx0 : num (bod l) ≠ 0 := fun h => hz ⟨hs, h⟩
          obtain ⟨e3, e4⟩ := errP_good hl2 (okP_pos hg hx0)
          rw [e3, e4, hs]
          rw [hs] at HC
          obtain ⟨x, hx⟩ : ∃ x, num (bod l) = x := ⟨_, rfl⟩
          rw [hx] at HNA hln ⊢
          obtain ⟨m, hm⟩ : ∃ m, len x = m := ⟨_, rfl⟩
          rw [hm] at hln
          have HLX := Lib.hid hm
          have hmp : m ≠ 0 := fun h => by
            have := len_eq_zero (hm.trans h)
            omega
          have hmb : ((m : Int) == 0) = false := by simp; omega
          clear e1 e2 e3 e4 hz hg hs hx hm hx0 hl2 hn hbl hmp
          generalize bod l = bl at *
          go_enter Tryz.func118, Tryz.ntmps118
          go_wp2_with fail
          have L := (Lz.mk0 w).box (w.heap.size) (by simp) false none 0 0
          refine (HC.out _).mono ?_
          rintro e w' ⟨rfl, rfl⟩
          go_wp2_with fail
          refine (HNA.out _).mono ?_
          rintro e w2 ⟨v, rfl, hv, be⟩
          replace L := (L.step be).n hv
          obtain ⟨A, c, rfl⟩ := hv.form
          rw [HLX.out] at hv L ⊢
          have c00 := L.b0.c0
          have c01 := L.b0.c1
          have f00 := L.b0.fr 0
          have f01 := L.b0.fr 1
          have HS := Lib.hid (fun W hW => znatN_any true x (.slice A m c) W hW (by rw [HLX.out]; omega))
          clear be hv
          go_wp2_with fail
          refine (HS.out _ L.hn).mono ?_
          rintro e w3 ⟨v3, rfl, iz, be⟩
          replace L := (L.step be).z iz
          obtain ⟨A3, c3, rfl, _⟩ := iz.form
          clear be iz c00 c01 f00 f01 HS
          have c00 := L.b0.c0
          have c01 := L.b0.c1
          have f00 := L.b0.fr 0
          have f01 := L.b0.fr 1
          go_wp2_with fail
          have LP := L.put (by omega) (by simp) (ng (sg true x)) A3 (zl (sg true x)) c3
          have d0 := LP.b0.c0
          have d1 := LP.b0.c1
          unfold put2 at d0 d1
          exact bodyPost_ret (v := .tuple #[.agg #[.bool (ng (sg true x)), .slice A3 (zl (sg true x)) c3], .int .i64 0]) (by simp [results, Tryz.results118, go_sem, d0, d1]) rfl ⟨_, rfl, LP.hz, LP.below⟩
        · have hs' : sgn l = false := by simpa using hs
          obtain ⟨e3, e4⟩ := errP_good hl2 (okP_nn hg hs')
          rw [e3, e4, hs']
          rw [hs'] at HC
          obtain ⟨x, hx⟩ : ∃ x, num (bod l) = x := ⟨_, rfl⟩
          rw [hx] at HNA hln ⊢
          obtain ⟨m, hm⟩ : ∃ m, len x = m := ⟨_, rfl⟩
          rw [hm] at hln
          have HLX := Lib.hid hm
          clear e1 e2 e3 e4 hz hg hs hs' hx hm hl2 hn hbl
          generalize bod l = bl at *
          go_enter Tryz.func118, Tryz.ntmps118
          go_wp2_with fail
          have L := (Lz.mk0 w).box (w.heap.size) (by simp) false none 0 0
          refine (HC.out _).mono ?_
          rintro e w' ⟨rfl, rfl⟩
          go_wp2_with fail
          refine (HNA.out _).mono ?_
          rintro e w2 ⟨v, rfl, hv, be⟩
          replace L := (L.step be).n hv
          obtain ⟨A, c, rfl⟩ := hv.form
          rw [HLX.out] at hv L ⊢
          have c00 := L.b0.c0
          have c01 := L.b0.c1
          have f00 := L.b0.fr 0
          have f01 := L.b0.fr 1
          have HS := Lib.hid (fun W hW => znatN_any false x (.slice A m c) W hW (by rw [HLX.out]; omega))
          clear be hv
          go_wp2_with fail
          refine (HS.out _ L.hn).mono ?_
          rintro e w3 ⟨v3, rfl, iz, be⟩
          replace L := (L.step be).z iz
          obtain ⟨A3, c3, rfl, _⟩ := iz.form
          clear be iz c00 c01 f00 f01 HS
          have c00 := L.b0.c0
          have c01 := L.b0.c1
          have f00 := L.b0.fr 0
          have f01 := L.b0.fr 1
          go_wp2_with fail
          have LP := L.put (by omega) (by simp) (ng (sg false x)) A3 (zl (sg false x)) c3
          have d0 := LP.b0.c0
          have d1 := LP.b0.c1
          unfold put2 at d0 d1
          exact bodyPost_ret (v := .tuple #[.agg #[.bool (ng (sg false x)), .slice A3 (zl (sg false x)) c3], .int .i64 0]) (by simp [results, Tryz.results118, go_sem, d0, d1]) rfl ⟨_, rfl, LP.hz, LP.below⟩
    · have hg' : good (bod l) = false := by simpa using hg
      obtain ⟨e1, e2⟩ := errN_bad (l := bod l) (by omega) hg'
      rw [e1, e2] at HNA
      obtain ⟨e3, e4⟩ := errP_bad hl2 (okP_good hg')
      rw [e3, e4]
      clear e1 e2 e3 e4 hg hg' hl2 hn hbl
      generalize sgn l = S at *
      generalize bod l = bl at *
      go_enter Tryz.func118, Tryz.ntmps118
      go_wp2_with fail
      have L := (Lz.mk0 w).box (w.heap.size) (by simp) false none 0 0
      refine (HC.out _).mono ?_
      rintro e w' ⟨rfl, rfl⟩
      go_wp2_with fail
      refine (HNA.out _).mono ?_
      rintro e w2 ⟨v, rfl, hv, be⟩
      replace L := L.step be
      obtain ⟨A, c, rfl⟩ := hv.form
      have c00 := L.b0.c0
      have c01 := L.b0.c1
      have f00 := L.b0.fr 0
      have f01 := L.b0.fr 1
      go_wp2_with fail
      have LP := L.put (by omega) (by simp) false none 0 0
      have d0 := LP.b0.c0
      have d1 := LP.b0.c1
      unfold put2 at d0 d1
      exact bodyPost_ret (v := .tuple #[.agg #[.bool false, .slice none 0 0], .int .i64 6]) (by simp [results, Tryz.results118, go_sem, d0, d1]) rfl ⟨_, rfl, isZ_zero _, LP.below⟩

end Go.Proofs.YtpgiolbnmlbjbaaGreatDoor
