/- The reference's decimal: whether a text is a decimal, and its two parts. -/
import Derived.Test.YtbndgggjfjdfbabGreatDoorDecRat
import Derived.Test.YtbndgggjfjdfbabGreatDoorRefNatu
import Derived.Test.YtbndgggjfjdfbabGreatDoorTx
namespace Go.Proofs.YtbndgggjfjdfbabGreatDoor
open Go.RowKit
set_option linter.unusedVariables false
set_option linter.unusedSimpArgs false
set_option maxRecDepth 100000
attribute [local go_sem ↓] Go.wp_at_zero Go.wp_at_succ

theorem okD_nth {l : List Nat} (h : okD l = true) {i : Nat} (hi : i < l.length) : isD (nth l i) = true ∨ (nth l i = 46 ∧ i = (whl l).length) := by
  unfold okD at h
  rw [Bool.and_eq_true] at h
  obtain ⟨hg, hf⟩ := h
  have hall : ∀ {a : List Nat} {k : Nat}, a.all isD = true → k < a.length → isD (nth a k) = true := fun {a k} ha hk => by
    rw [nth_eq, List.getElem?_eq_getElem hk]
    exact List.all_eq_true.1 ha _ (List.getElem_mem hk)
  rcases cut_cases l with h1 | ⟨a, b, rfl, h1⟩
  · obtain ⟨e1, _, _⟩ := parts_no h1
    rw [e1] at hg
    exact .inl (hall (good_all hg) hi)
  · obtain ⟨e1, e2, e3⟩ := parts_yes (b := b) h1
    rw [e1] at hg
    rw [e2, e3] at hf
    obtain ⟨_, _, b3⟩ := okF_all (by simpa using hf)
    rw [e1]
    rcases Nat.lt_trichotomy i a.length with h2 | h2 | h2
    · left
      rw [nth_eq, List.getElem?_append_left h2, ← nth_eq]
      exact hall (good_all hg) h2
    · right
      refine ⟨?_, h2⟩
      rw [nth_eq, List.getElem?_append_right (by omega), h2, Nat.sub_self]
      rfl
    · left
      rw [List.length_append, List.length_cons] at hi
      rw [nth_eq, List.getElem?_append_right (by omega), show i - a.length = (i - a.length - 1) + 1 by omega, List.getElem?_cons_succ, ← nth_eq]
      exact hall b3 (by omega)
/-- How far the reference has come: i bytes, the first point at P (n: none yet). -/
def DecIs (l : List Nat) (n i P : Nat) : Prop := (P = n ∧ (l.take i).all isD = true) ∨ (P < i ∧ ∃ a b, l.take i = a ++ 46 :: b ∧ a.length = P ∧ a.all isD = true ∧ b.all isD = true)
theorem decIs_digit {l : List Nat} {n i P : Nat} (h : DecIs l n i P) (hi : i < l.length) (hc : isD (nth l i) = true) : DecIs l n (i + 1) P := by
  rcases h with ⟨h1, h2⟩ | ⟨h1, a, b, h2, h3, h4, h5⟩
  · exact .inl ⟨h1, all_take h2 hi hc⟩
  · refine .inr ⟨by omega, a, b ++ [nth l i], ?_, h3, h4, ?_⟩
    · rw [take_snoc hi, h2, List.append_assoc]; rfl
    · rw [List.all_append, h5]; simpa using hc
theorem decIs_point {l : List Nat} {n i : Nat} (h : DecIs l n i n) (hn : i ≤ n) (hi : i < l.length) (hc : nth l i = 46) : DecIs l n (i + 1) i := by
  rcases h with ⟨_, h2⟩ | ⟨h1, _⟩
  · refine .inr ⟨by omega, l.take i, [], ?_, ?_, h2, rfl⟩
    · rw [take_snoc hi, hc]
    · rw [List.length_take]; omega
  · omega
theorem decIs_bad {l : List Nat} {i P : Nat} (h : DecIs l l.length i P) (hi : i < l.length) (hc : isD (nth l i) = false) (hp : nth l i ≠ 46 ∨ P ≠ l.length) : okD l = false := by
  cases ho : okD l
  · rfl
  · exfalso
    rcases okD_nth ho hi with h1 | ⟨h1, h2⟩
    · rw [hc] at h1; cases h1
    · rcases h with ⟨h3, _⟩ | ⟨h3, a, b, h4, h5, h6, _⟩
      · exact hp.elim (fun e => e h1) (fun e => e h3)
      · have h7 : nth l P = 46 := by
          have : nth (l.take i) P = 46 := by
            rw [h4, nth_eq, ← h5, List.getElem?_append_right (Nat.le_refl _), Nat.sub_self]; rfl
          rwa [nth_take _ h3] at this
        rcases okD_nth ho (show P < l.length by omega) with h8 | ⟨_, h8⟩
        · rw [h7] at h8; revert h8; decide
        · omega
/-- A pair of texts, and whether they are the parts of a decimal. -/
def RetDcm (w : World) (l : List Nat) (e : Ending) (w' : World) : Prop := e = .returned (.tuple #[.string (str (if okD l then whl l else [])), .string (str (if okD l then frc l else [])), .bool (okD l)]) ∧ Below w.heap.size w w'
theorem dcm_no {w w' : World} {l : List Nat} (h : okD l = false) (hb : Below w.heap.size w w') : RetDcm w l (.returned (.tuple #[.string ⟨#[]⟩, .string ⟨#[]⟩, .bool false])) w' := by
  unfold RetDcm
  rw [h]
  exact ⟨rfl, hb⟩
theorem end_plain {l : List Nat} (h : DecIs l l.length l.length l.length) : whl l = l ∧ frc l = [] ∧ l.all isD = true ∧ okD l = good l := by
  rcases h with ⟨_, h2⟩ | ⟨h1, _⟩
  · rw [List.take_length] at h2
    obtain ⟨e1, e2, e3⟩ := parts_no (isD_not46 h2)
    refine ⟨e1, e2, h2, ?_⟩
    unfold okD
    rw [e1, e3, Bool.not_false, Bool.true_or, Bool.and_true]
  · omega
theorem end_point {l : List Nat} {P : Nat} (h : DecIs l l.length l.length P) (hP : P ≠ l.length) : ∃ a b, l = a ++ 46 :: b ∧ a.length = P ∧ a.all isD = true ∧ b.all isD = true ∧ whl l = a ∧ frc l = b ∧ okD l = (good a && okF b) := by
  rcases h with ⟨h1, _⟩ | ⟨h1, a, b, h2, h3, h4, h5⟩
  · exact absurd h1 hP
  · rw [List.take_length] at h2
    obtain ⟨e1, e2, e3⟩ := parts_yes (b := b) (isD_not46 h4)
    refine ⟨a, b, h2, h3, h4, h5, by rw [h2]; exact e1, by rw [h2]; exact e2, ?_⟩
    unfold okD
    rw [h2, e1, e2, e3]
    rfl
set_option maxHeartbeats 4000000 in
theorem rdecimal_any (l : List Nat) (w : World) (hb : Byt l) (hl : l.length ≤ 1000000) :
    Calls Tryz.prog 61 #[.string (str l)] w (RetDcm w l) := by
  have hsz := str_size l
  obtain ⟨n, hn⟩ : ∃ n, l.length = n := ⟨_, rfl⟩
  rw [hn] at hsz hl
  have HN := Lib.hid hn
  clear hn
  go_enter Tryz.func61, Tryz.ntmps61
  go_wp2_with fail
  go_loopw [5, 6] (fun p i wr => ∃ P m : Nat, p = .int .i64 (P : Int) ∧ i = .int .i64 (m : Int) ∧ m ≤ n ∧ P ≤ n ∧ Hid (DecIs l n m P) ∧ wr = w) (fun _ i _ => n - (intOf i).toNat)
  case atStart => exact ⟨n, 0, rfl, rfl, by omega, Nat.le_refl _, .inl ⟨rfl, rfl⟩, rfl⟩
  case round =>
    obtain ⟨P, m, rfl, rfl, hm, hP, HD, rfl⟩ := hrel
    rcases Nat.eq_or_lt_of_le hm with rfl | hmn
    · by_cases hPn : P = m
      · subst hPn
        obtain ⟨e1, e2, e3, e4⟩ := end_plain (l := l) (HN.out.symm ▸ HD.out)
        have hpn : decide ((P : Int) < (P : Int)) = false := decide_eq_false (by omega)
        have hpn2 : decide (P < P) = false := decide_eq_false (by omega)
        rcases Nat.eq_zero_or_pos P with h0 | h0
        · have hnil : l = [] := List.eq_nil_of_length_eq_zero (HN.out.trans h0)
          have HO := Lib.hid (show okD l = false by rw [e4, hnil]; rfl)
          subst h0
          clear e1 e2 e3 e4 hnil HD
          go_wp2_with fail
          go_ret3
          exact dcm_no HO.out (Below.refl _ _)
        · have hne : l ≠ [] := fun e => by rw [e] at HN; exact absurd HN.out (by simp; omega)
          have hget : ∀ h, ((str l)[0]'h).toNat = nth l 0 := fun h => str_get hb 0 h
          obtain ⟨c0, hc0⟩ : ∃ c0, nth l 0 = c0 := ⟨_, rfl⟩
          rw [hc0] at hget
          have hp0 : ((P : Int) == 0) = false := by rw [beq_eq_false_iff_ne]; omega
          by_cases h1 : 1 < P
          · have hp1 : decide ((1 : Int) < (P : Int)) = true := decide_eq_true (by omega)
            have hp2 : decide (1 < P) = true := decide_eq_true h1
            by_cases h48 : c0 = 48
            · have HO := Lib.hid (show okD l = false by rw [e4]; exact good_lead' (by rw [HN.out]; exact h1) (hc0.trans h48))
              subst h48
              clear e1 e2 e3 e4 HD hc0 hne
              go_wp2_with fail
              go_ret3
              exact dcm_no HO.out (Below.refl _ _)
            · have HO := Lib.hid (show okD l = true by rw [e4, good_rest hne (.inr (by rw [hc0]; exact h48))]; exact e3)
              have hq0 : ((c0 : Int) == 48) = false := by rw [beq_eq_false_iff_ne]; omega
              have HW := Lib.hid e1
              have HF := Lib.hid e2
              clear e1 e2 e3 e4 HD hc0 hne
              go_wp2_with fail
              go_ret3
              exact ⟨by rw [HO.out, if_pos rfl, if_pos rfl, HW.out, HF.out]; rfl, Below.refl _ _⟩
          · have hp1 : decide ((1 : Int) < (P : Int)) = false := decide_eq_false (by omega)
            have hp2 : decide (1 < P) = false := decide_eq_false h1
            have HO := Lib.hid (show okD l = true by rw [e4, good_rest hne (.inl (by rw [HN.out]; omega))]; exact e3)
            have HW := Lib.hid e1
            have HF := Lib.hid e2
            clear e1 e2 e3 e4 HD hc0 hne
            go_wp2_with fail
            go_ret3
            exact ⟨by rw [HO.out, if_pos rfl, if_pos rfl, HW.out, HF.out]; rfl, Below.refl _ _⟩
      · obtain ⟨a, b, el, ea, e3, e3b, e1, e2, e4⟩ := end_point (l := l) (P := P) (HN.out.symm ▸ HD.out) (by rw [HN.out]; exact hPn)
        have hll : a.length + (b.length + 1) = m := by rw [← HN.out, el, List.length_append, List.length_cons]
        obtain ⟨k, rfl⟩ : ∃ k, m = k + 1 := ⟨m - 1, by omega⟩
        have hpn : decide ((P : Int) < (k : Int) + 1) = true := decide_eq_true (by omega)
        have hpn2 : decide (P < k + 1) = true := decide_eq_true (by omega)
        have hpe : ((P : Int) == (k : Int) + 1) = false := by rw [beq_eq_false_iff_ne]; omega
        have hk1 : (k : Int) + 1 - 1 = (k : Int) := by omega
        have hget : ∀ h, ((str l)[0]'h).toNat = nth l 0 := fun h => str_get hb 0 h
        have hgetl : ∀ h, ((str l)[k]'h).toNat = nth l k := fun h => str_get hb k h
        have hn0 : 0 < P → nth l 0 = nth a 0 := fun h => by rw [el, nth_eq, List.getElem?_append_left (by omega), ← nth_eq]
        have hnk : nth l k = if b = [] then 46 else nth b (b.length - 1) := by
          rw [el, nth_eq, List.getElem?_append_right (by omega)]
          split
          · rename_i hb0
            subst hb0
            rw [show k - a.length = 0 by simp at hll; omega]; rfl
          · rename_i hb0
            have hbl := List.length_pos_iff.2 hb0
            rw [show k - a.length = (b.length - 1) + 1 by omega, List.getElem?_cons_succ, ← nth_eq]
        have hlast : b ≠ [] → isD (nth b (b.length - 1)) = true := fun hb0 => by
          have hbl := List.length_pos_iff.2 hb0
          rw [nth_eq, List.getElem?_eq_getElem (show b.length - 1 < b.length by omega)]
          exact List.all_eq_true.1 e3b _ (List.getElem_mem _)
        obtain ⟨c0, hc0⟩ : ∃ c0, nth l 0 = c0 := ⟨_, rfl⟩
        rw [hc0] at hget hn0
        obtain ⟨cl, hcl⟩ : ∃ cl, nth l k = cl := ⟨_, rfl⟩
        rw [hcl] at hgetl hnk
        have hkI : (0 : Int) ≤ (k : Int) := by omega
        have hk2 : (k : Int) < (k : Int) + 1 := by omega
        rcases Nat.eq_zero_or_pos P with h0 | h0
        · have hnil : a = [] := List.eq_nil_of_length_eq_zero (ea.trans h0)
          have HO := Lib.hid (show okD l = false by rw [e4, hnil]; rfl)
          subst h0
          clear el ea e3 e3b e1 e2 e4 hll hnil HD hc0 hcl hn0 hnk hlast
          go_wp2_with fail
          go_ret3
          exact dcm_no HO.out (Below.refl _ _)
        · have hane : a ≠ [] := fun e => by rw [e] at ea; simp at ea; omega
          have hp0 : ((P : Int) == 0) = false := by rw [beq_eq_false_iff_ne]; omega
          have hca := hn0 h0
          have hgood : (1 < P ∧ c0 = 48 ∧ good a = false) ∨ (¬ (1 < P ∧ c0 = 48) ∧ good a = true) := by
            by_cases h : 1 < P ∧ c0 = 48
            · exact .inl ⟨h.1, h.2, good_lead' (by omega) (hca.symm.trans h.2)⟩
            · refine .inr ⟨h, ?_⟩
              rw [good_rest hane (by by_cases h2 : 1 < P; exact .inr (by rw [← hca]; exact fun e => h ⟨h2, e⟩); exact .inl (by omega))]
              exact e3
          rcases hgood with ⟨h1, h48, hg⟩ | ⟨h1, hg⟩
          · have HO := Lib.hid (show okD l = false by rw [e4, hg]; rfl)
            have hp1 : decide ((1 : Int) < (P : Int)) = true := decide_eq_true (by omega)
            have hp2 : decide (1 < P) = true := decide_eq_true h1
            subst h48
            clear el ea e3 e3b e1 e2 e4 hll HD hc0 hcl hn0 hnk hlast hane hca hg
            go_wp2_with fail
            go_ret3
            exact dcm_no HO.out (Below.refl _ _)
          · have hF : okF b = (decide (cl ≠ 48) && decide (cl ≠ 46)) := by
              by_cases hb0 : b = []
              · rw [if_pos hb0] at hnk
                subst hnk
                rw [hb0]; rfl
              · rw [if_neg hb0] at hnk
                have h46 : cl ≠ 46 := fun e => by
                  have := hlast hb0
                  rw [← hnk, e] at this
                  revert this; decide
                unfold okF
                rw [decide_eq_true hb0, ← hnk, e3b, decide_eq_true h46]
                rfl
            rw [hg, Bool.true_and, hF] at e4
            have hA : (1 < P ∧ ((c0 : Int) == 48) = false ∧ decide ((1 : Int) < (P : Int)) = true ∧ decide (1 < P) = true) ∨ (¬ 1 < P ∧ decide ((1 : Int) < (P : Int)) = false ∧ decide (1 < P) = false) := by
              by_cases h2 : 1 < P
              · exact .inl ⟨h2, by rw [beq_eq_false_iff_ne]; exact fun e => h1 ⟨h2, by omega⟩, decide_eq_true (by omega), decide_eq_true h2⟩
              · exact .inr ⟨h2, decide_eq_false (by omega), decide_eq_false h2⟩
            by_cases hz : cl = 48
            · have HO := Lib.hid (show okD l = false by rw [e4, hz]; rfl)
              subst hz
              clear el ea e3 e3b e1 e2 e4 hll HD hc0 hcl hn0 hnk hlast hane hca hg hF h1
              rcases hA with ⟨h2, hq0, hp1, hp2⟩ | ⟨h2, hp1, hp2⟩
              · go_wp2_with fail
                go_ret3
                exact dcm_no HO.out (Below.refl _ _)
              · go_wp2_with fail
                go_ret3
                exact dcm_no HO.out (Below.refl _ _)
            · have hcz : ((cl : Int) == 48) = false := by rw [beq_eq_false_iff_ne]; omega
              by_cases hp : cl = 46
              · have HO := Lib.hid (show okD l = false by rw [e4, hp]; rfl)
                subst hp
                clear el ea e3 e3b e1 e2 e4 hll HD hc0 hcl hn0 hnk hlast hane hca hg hF h1
                rcases hA with ⟨h2, hq0, hp1, hp2⟩ | ⟨h2, hp1, hp2⟩
                · go_wp2_with fail
                  go_ret3
                  exact dcm_no HO.out (Below.refl _ _)
                · go_wp2_with fail
                  go_ret3
                  exact dcm_no HO.out (Below.refl _ _)
              · have hcp : ((cl : Int) == 46) = false := by rw [beq_eq_false_iff_ne]; omega
                have HO := Lib.hid (show okD l = true by rw [e4, decide_eq_true hz, decide_eq_true hp]; rfl)
                have hx1 : (str l).extract 0 P = str a := by rw [el, str_extract, List.drop_zero, Nat.sub_zero, ← ea, List.take_left']; rfl
                have hx2 : (str l).extract (P + 1) (k + 1) = str b := by
                  rw [el, str_extract, List.drop_append, List.drop_eq_nil_of_le (by omega), List.nil_append, show P + 1 - a.length = 1 by omega, List.drop_succ_cons, List.drop_zero, List.take_of_length_le (by omega)]
                have HW := Lib.hid (show str (whl l) = str a by rw [e1])
                have HF := Lib.hid (show str (frc l) = str b by rw [e2])
                have i1 : (0 : Int) ≤ (P : Int) := by omega
                have i2 : (P : Int) ≤ (k : Int) + 1 := by omega
                have i3 : (P : Int) + 1 ≤ (k : Int) + 1 := by omega
                have i4 : (0 : Int) ≤ (P : Int) + 1 := by omega
                have i5 : IntKind.i64.wrap ((P : Int) + 1) = (P : Int) + 1 := by rw [IntKind.wrap_i64]; omega
                clear el ea e3 e3b e1 e2 e4 hll HD hc0 hcl hn0 hnk hlast hane hca hg hF h1 hz hp
                generalize str a = sa at *
                generalize str b = sb at *
                rcases hA with ⟨h2, hq0, hp1, hp2⟩ | ⟨h2, hp1, hp2⟩
                · go_wp2_with fail
                  go_region
                  go_wp2_with fail
                  go_ret3
                  exact ⟨by rw [HO.out, if_pos rfl, if_pos rfl, HW.out, HF.out]; rfl, (Below.refl _ _).drew⟩
                · go_wp2_with fail
                  go_region
                  go_wp2_with fail
                  go_ret3
                  exact ⟨by rw [HO.out, if_pos rfl, if_pos rfl, HW.out, HF.out]; rfl, (Below.refl _ _).drew⟩
    · obtain ⟨c, hc⟩ : ∃ c, nth l m = c := ⟨_, rfl⟩
      have hget : ∀ h, ((str l)[m]'h).toNat = c := fun h => (str_get hb m h).trans hc
      have hlt : m < l.length := by rw [HN.out]; exact hmn
      have hc2 : c < 256 := by rw [← hc]; exact byt_get hb m
      have i0 : (0 : Int) ≤ (m : Int) := by omega
      have i1 : (m : Int) < (n : Int) := by omega
      by_cases h46 : c = 46
      · subst h46
        by_cases hPn : P = n
        · subst hPn
          have HD2 := Lib.hid (decIs_point HD.out (Nat.le_of_lt hmn) hlt hc)
          clear hc hlt HD
          go_wp2_with fail
          go_roundw
          case rel => exact ⟨m, m + 1, rfl, by go_num, by omega, by omega, HD2.out, trivial⟩
          case measure => simp [intOf]; omega
        · have hok := decIs_bad (P := P) (i := m) (HN.out.symm ▸ HD.out) hlt (by rw [hc]; rfl) (.inr (by rw [HN.out]; exact hPn))
          have HO := Lib.hid hok
          have hpn : ((P : Int) == (n : Int)) = false := by rw [beq_eq_false_iff_ne]; omega
          have hpn2 : (P == n) = false := by rw [beq_eq_false_iff_ne]; exact hPn
          clear hok hc hlt HD
          go_wp2_with fail
          go_ret3
          exact dcm_no HO.out (Below.refl _ _)
      · have hcb : ((c : Int) == 46) = false := by rw [beq_eq_false_iff_ne]; omega
        by_cases hcd : isD c = true
        · have HD2 := Lib.hid (decIs_digit HD.out hlt (by rw [hc]; exact hcd))
          unfold isD at hcd
          rw [decide_eq_true_iff] at hcd
          have b1 : decide ((c : Int) < 48) = false := decide_eq_false (by omega)
          have b2 : decide ((57 : Int) < (c : Int)) = false := decide_eq_false (by omega)
          clear hc hlt HD
          go_wp2_with fail
          go_roundw
          case rel => exact ⟨P, m + 1, rfl, by go_num, by omega, hP, HD2.out, trivial⟩
          case measure => simp [intOf]; omega
        · have hcd' : isD c = false := by simpa using hcd
          have hok := decIs_bad (P := P) (i := m) (HN.out.symm ▸ HD.out) hlt (by rw [hc]; exact hcd') (.inl (by rw [hc]; exact h46))
          have HO := Lib.hid hok
          unfold isD at hcd'
          rw [decide_eq_false_iff_not] at hcd'
          clear hok hc hlt HD hcd
          rcases (show c < 48 ∨ 57 < c by omega) with h48 | h57
          · have b1 : decide ((c : Int) < 48) = true := decide_eq_true (by omega)
            go_wp2_with fail
            go_ret3
            exact dcm_no HO.out (Below.refl _ _)
          · have b1 : decide ((c : Int) < 48) = false := decide_eq_false (by omega)
            have b2 : decide ((57 : Int) < (c : Int)) = true := decide_eq_true (by omega)
            go_wp2_with fail
            go_ret3
            exact dcm_no HO.out (Below.refl _ _)

end Go.Proofs.YtbndgggjfjdfbabGreatDoor
