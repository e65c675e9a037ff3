/- The reference's Parse. -/
import Derived.Test.YtpgiolbnmlbjbaaGreatDoorPars
import Derived.Test.YtpgiolbnmlbjbaaGreatDoorRefNatu
namespace Go.Proofs.YtpgiolbnmlbjbaaGreatDoor
open Go.RowKit
set_option linter.unusedVariables false
set_option linter.unusedSimpArgs false
set_option maxRecDepth 100000
attribute [local go_sem ↓] Go.wp_at_zero Go.wp_at_succ

set_option maxHeartbeats 2000000 in
theorem rparse_any (l : List Nat) (w : World) (hb : Byt l) (hl : l.length ≤ 1000000) :
    Calls Tryz.prog 94 #[.string (str l)] w (RetZE w (valP l) (errP l)) := by
  have hsz := str_size l
  obtain ⟨n, hn⟩ : ∃ n, l.length = n := ⟨_, rfl⟩
  rw [hn] at hsz
  have HN := Lib.hid hn
  by_cases hlong : 20001 < n
  · obtain ⟨e1, e2⟩ := errP_long (l := l) (by rw [HN.out]; exact hlong)
    rw [e1, e2]
    rw [hn] at hl
    clear e1 e2 hn
    go_enter Tryz.func94, Tryz.ntmps94
    go_wp2_with fail
    have L := (Lz.mk0 w).box (w.heap.size) (by simp) false none 0 0
    exact bodyPost_ret (v := .tuple #[.agg #[.bool false, .slice none 0 0], .int .i64 7]) (by simp [results, Tryz.results94, go_sem]) rfl ⟨_, rfl, isZ_zero _, L.below⟩
  · have hbl := bod_length l
    have HNA := Lib.hid (fun W => rnatural_any (bod l) W (bod_byt hb) (by omega))
    have hl2 : l.length ≤ 20001 := by omega
    have hget0 : ∀ h, ((str l)[0]'h).toNat = nth l 0 := fun h => str_get hb 0 h
    rw [hn] at hl
    rcases Nat.eq_zero_or_pos n with h0 | h0
    · subst h0
      have hnil : l = [] := List.eq_nil_of_length_eq_zero hn
      have hbo : bod l = l := bod_no (sgn_nil hn)
      have hg : good (bod l) = false := by rw [hbo, hnil]; exact good_nil
      obtain ⟨e1, e2⟩ := errN_bad (l := bod l) (by omega) hg
      rw [e1, e2, hbo] at HNA
      obtain ⟨e3, e4⟩ := errP_bad hl2 (okP_good hg)
      rw [e3, e4]
      clear e1 e2 e3 e4 hg hl2 hn hbl hget0 hnil hbo
      go_enter Tryz.func94, Tryz.ntmps94
      go_wp2_with fail
      have L := (Lz.mk0 w).box (w.heap.size) (by simp) false none 0 0
      refine (HNA.out _).mono ?_
      rintro e w2 ⟨v, rfl, hv, be⟩
      replace L := L.step be
      obtain ⟨A, c, rfl⟩ := hv.form
      have c00 := L.b0.c0
      have c01 := L.b0.c1
      have f00 := L.b0.fr 0
      have f01 := L.b0.fr 1
      go_wp2_with fail
      have LP := L.put (by omega) (by simp) false none 0 0
      have d0 := LP.b0.c0
      have d1 := LP.b0.c1
      unfold put2 at d0 d1
      exact bodyPost_ret (v := .tuple #[.agg #[.bool false, .slice none 0 0], .int .i64 6]) (by simp [results, Tryz.results94, go_sem, d0, d1]) rfl ⟨_, rfl, isZ_zero _, LP.below⟩
    · obtain ⟨k, rfl⟩ : ∃ k, n = k + 1 := ⟨n - 1, by omega⟩
      have hk20 : k ≤ 20000 := by omega
      clear hlong
      by_cases hs : sgn l = true
      · have hx : (str l).extract 1 (k + 1) = str (bod l) := by
          rw [str_extract, bod_yes hs, List.take_of_length_le (by rw [List.length_drop, hn]; omega)]
        rw [show nth l 0 = 45 from by unfold sgn at hs; exact of_decide_eq_true hs] at hget0
        by_cases hg : good (bod l) = true
        · obtain ⟨e1, e2⟩ := errN_good (l := bod l) (by omega) hg
          rw [e1, e2] at HNA
          have hln : len (num (bod l)) ≤ 1000000 := Nat.le_trans (len_num (num_lt (good_all hg))) (by omega)
          by_cases hz : num (bod l) = 0
          · obtain ⟨e3, e4⟩ := errP_bad hl2 (okP_zero hs hz)
            rw [e3, e4]
            rw [hz] at HNA
            clear e1 e2 e3 e4 hz hg hln hl2 hn hbl h0 hs
            generalize bod l = bl at *
            go_enter Tryz.func94, Tryz.ntmps94
            go_wp2_with fail
            have L := (Lz.mk0 w).box (w.heap.size) (by simp) false none 0 0
            refine (HNA.out _).mono ?_
            rintro e w2 ⟨v, rfl, hv, be⟩
            replace L := L.step be
            obtain ⟨A, c, rfl⟩ := hv.form
            rw [len_zero] at hv ⊢
            have c00 := L.b0.c0
            have c01 := L.b0.c1
            have f00 := L.b0.fr 0
            have f01 := L.b0.fr 1
            go_wp2_with fail
            have LP := L.put (by omega) (by simp) false none 0 0
            have d0 := LP.b0.c0
            have d1 := LP.b0.c1
            unfold put2 at d0 d1
            exact bodyPost_ret (v := .tuple #[.agg #[.bool false, .slice none 0 0], .int .i64 6]) (by simp [results, Tryz.results94, go_sem, d0, d1]) rfl ⟨_, rfl, isZ_zero _, LP.below⟩
          · have hx0 := hz
            obtain ⟨e3, e4⟩ := errP_good hl2 (okP_pos hg hx0)
            rw [e3, e4, hs]
            obtain ⟨x, hxx⟩ : ∃ x, num (bod l) = x := ⟨_, rfl⟩
            rw [hxx] at HNA hln ⊢
            obtain ⟨m, hm⟩ : ∃ m, len x = m := ⟨_, rfl⟩
            rw [hm] at hln
            have HLX := Lib.hid hm
            have hmp : m ≠ 0 := fun h => by
              have := len_eq_zero (hm.trans h)
              omega
            have hmb : ((m : Int) == 0) = false := by simp; omega
            clear e1 e2 e3 e4 hz hg hs hxx hm hx0 hl2 hn hbl hmp h0
            generalize bod l = bl at *
            go_enter Tryz.func94, Tryz.ntmps94
            go_wp2_with fail
            have L := (Lz.mk0 w).box (w.heap.size) (by simp) false none 0 0
            refine (HNA.out _).mono ?_
            rintro e w2 ⟨v, rfl, hv, be⟩
            replace L := (L.step be).n hv
            obtain ⟨A, c, rfl⟩ := hv.form
            rw [HLX.out] at hv L ⊢
            have c00 := L.b0.c0
            have c01 := L.b0.c1
            have f00 := L.b0.fr 0
            have f01 := L.b0.fr 1
            have HS := Lib.hid (fun W hW => rznatN_any true x (.slice A m c) W hW (by rw [HLX.out]; omega))
            clear be hv
            go_wp2_with fail
            refine (HS.out _ L.hn).mono ?_
            rintro e w3 ⟨v3, rfl, iz, be⟩
            replace L := (L.step be).z iz
            obtain ⟨A3, c3, rfl, _⟩ := iz.form
            clear be iz c00 c01 f00 f01 HS
            have c00 := L.b0.c0
            have c01 := L.b0.c1
            have f00 := L.b0.fr 0
            have f01 := L.b0.fr 1
            go_wp2_with fail
            have LP := L.put (by omega) (by simp) (ng (sg true x)) A3 (zl (sg true x)) c3
            have d0 := LP.b0.c0
            have d1 := LP.b0.c1
            unfold put2 at d0 d1
            exact bodyPost_ret (v := .tuple #[.agg #[.bool (ng (sg true x)), .slice A3 (zl (sg true x)) c3], .int .i64 0]) (by simp [results, Tryz.results94, go_sem, d0, d1]) rfl ⟨_, rfl, LP.hz, LP.below⟩
        · have hg' : good (bod l) = false := by simpa using hg
          obtain ⟨e1, e2⟩ := errN_bad (l := bod l) (by omega) hg'
          rw [e1, e2] at HNA
          obtain ⟨e3, e4⟩ := errP_bad hl2 (okP_good hg')
          rw [e3, e4]
          clear e1 e2 e3 e4 hg hg' hl2 hn hbl h0 hs
          generalize bod l = bl at *
          go_enter Tryz.func94, Tryz.ntmps94
          go_wp2_with fail
          have L := (Lz.mk0 w).box (w.heap.size) (by simp) false none 0 0
          refine (HNA.out _).mono ?_
          rintro e w2 ⟨v, rfl, hv, be⟩
          replace L := L.step be
          obtain ⟨A, c, rfl⟩ := hv.form
          have c00 := L.b0.c0
          have c01 := L.b0.c1
          have f00 := L.b0.fr 0
          have f01 := L.b0.fr 1
          go_wp2_with fail
          have LP := L.put (by omega) (by simp) false none 0 0
          have d0 := LP.b0.c0
          have d1 := LP.b0.c1
          unfold put2 at d0 d1
          exact bodyPost_ret (v := .tuple #[.agg #[.bool false, .slice none 0 0], .int .i64 6]) (by simp [results, Tryz.results94, go_sem, d0, d1]) rfl ⟨_, rfl, isZ_zero _, LP.below⟩
      · have hs' : sgn l = false := by simpa using hs
        have hbo : bod l = l := bod_no hs'
        have hc45 : nth l 0 ≠ 45 := by unfold sgn at hs'; exact of_decide_eq_false hs'
        obtain ⟨c0, hc0⟩ : ∃ c0, nth l 0 = c0 := ⟨_, rfl⟩
        rw [hc0] at hget0 hc45
        have hcb : ((c0 : Int) == 45) = false := by simp; omega
        by_cases hg : good (bod l) = true
        · obtain ⟨e1, e2⟩ := errN_good (l := bod l) (by omega) hg
          rw [e1, e2] at HNA
          have hln : len (num (bod l)) ≤ 1000000 := Nat.le_trans (len_num (num_lt (good_all hg))) (by omega)
          obtain ⟨e3, e4⟩ := errP_good hl2 (okP_nn hg hs')
          rw [e3, e4, hs']
          obtain ⟨x, hx⟩ : ∃ x, num (bod l) = x := ⟨_, rfl⟩
          rw [hx] at HNA hln ⊢
          obtain ⟨m, hm⟩ : ∃ m, len x = m := ⟨_, rfl⟩
          rw [hm] at hln
          have HLX := Lib.hid hm
          rw [hbo] at HNA
          clear e1 e2 e3 e4 hg hs hs' hx hm hl2 hn hbl h0 hc45 hc0 hbo
          go_enter Tryz.func94, Tryz.ntmps94
          go_wp2_with fail
          have L := (Lz.mk0 w).box (w.heap.size) (by simp) false none 0 0
          refine (HNA.out _).mono ?_
          rintro e w2 ⟨v, rfl, hv, be⟩
          replace L := (L.step be).n hv
          obtain ⟨A, c, rfl⟩ := hv.form
          rw [HLX.out] at hv L ⊢
          have c00 := L.b0.c0
          have c01 := L.b0.c1
          have f00 := L.b0.fr 0
          have f01 := L.b0.fr 1
          have HS := Lib.hid (fun W hW => rznatN_any false x (.slice A m c) W hW (by rw [HLX.out]; omega))
          clear be hv
          go_wp2_with fail
          refine (HS.out _ L.hn).mono ?_
          rintro e w3 ⟨v3, rfl, iz, be⟩
          replace L := (L.step be).z iz
          obtain ⟨A3, c3, rfl, _⟩ := iz.form
          clear be iz c00 c01 f00 f01 HS
          have c00 := L.b0.c0
          have c01 := L.b0.c1
          have f00 := L.b0.fr 0
          have f01 := L.b0.fr 1
          go_wp2_with fail
          have LP := L.put (by omega) (by simp) (ng (sg false x)) A3 (zl (sg false x)) c3
          have d0 := LP.b0.c0
          have d1 := LP.b0.c1
          unfold put2 at d0 d1
          exact bodyPost_ret (v := .tuple #[.agg #[.bool (ng (sg false x)), .slice A3 (zl (sg false x)) c3], .int .i64 0]) (by simp [results, Tryz.results94, go_sem, d0, d1]) rfl ⟨_, rfl, LP.hz, LP.below⟩
        · have hg' : good (bod l) = false := by simpa using hg
          obtain ⟨e1, e2⟩ := errN_bad (l := bod l) (by omega) hg'
          rw [e1, e2, hbo] at HNA
          obtain ⟨e3, e4⟩ := errP_bad hl2 (okP_good hg')
          rw [e3, e4]
          clear e1 e2 e3 e4 hg hg' hl2 hn hbl h0 hs hs' hc45 hc0 hbo
          go_enter Tryz.func94, Tryz.ntmps94
          go_wp2_with fail
          have L := (Lz.mk0 w).box (w.heap.size) (by simp) false none 0 0
          refine (HNA.out _).mono ?_
          rintro e w2 ⟨v, rfl, hv, be⟩
          replace L := L.step be
          obtain ⟨A, c, rfl⟩ := hv.form
          have c00 := L.b0.c0
          have c01 := L.b0.c1
          have f00 := L.b0.fr 0
          have f01 := L.b0.fr 1
          go_wp2_with fail
          have LP := L.put (by omega) (by simp) false none 0 0
          have d0 := LP.b0.c0
          have d1 := LP.b0.c1
          unfold put2 at d0 d1
          exact bodyPost_ret (v := .tuple #[.agg #[.bool false, .slice none 0 0], .int .i64 6]) (by simp [results, Tryz.results94, go_sem, d0, d1]) rfl ⟨_, rfl, isZ_zero _, LP.below⟩

end Go.Proofs.YtpgiolbnmlbjbaaGreatDoor
