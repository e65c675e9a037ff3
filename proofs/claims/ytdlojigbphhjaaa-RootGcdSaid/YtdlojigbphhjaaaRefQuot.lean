/- Walks: the reference's fits, DivMod, Div, Divides, Exact. -/
import Derived.Test.YtdlojigbphhjaaaQuotE
import Derived.Test.YtdlojigbphhjaaaRefProd
namespace Go.Proofs.Ytdlojigbphhjaaa
open Go.RowKit

theorem Own.far {w : World} {base : Nat} {v : Value} {l : List Nat} (h : Own w base v l) {g j : Nat} (hg : g < base) (u : Value) : Own (w.setCell ⟨g, j, none⟩ u) base v l :=
  h.grown (grown_set (World.grownBy.refl w _) j u) (by
    rcases hv : v.ownBlock with _ | k
    · exact .inl rfl
    · refine .inr (fun e => ?_)
      have := h.blockGe k hv
      injection e with e
      omega)

set_option maxHeartbeats 400000 in
theorem rfits_any (r y : Nat) (va vb : Value) (w : World) (ha : IsN w va r) (hb : IsN w vb y) (hl : len y ≤ 274877906944) (hy : 0 < y) (hlt : r < 4294967296 * y) :
    Calls Try.prog 52 #[va, vb] w fun e w' => e = .returned (.int .u32 ((r / y : Nat) : Int)) ∧ Below w.heap.size w w' := by
  have hq : r / y < 4294967296 := (Nat.div_lt_iff_lt_mul hy).2 hlt
  have HLE := Lib.hid (fun k => (Nat.le_div_iff_mul_le (x := k) (y := r) hy))
  obtain ⟨q, hq2⟩ : ∃ q, r / y = q := ⟨_, rfl⟩
  rw [hq2] at hq HLE ⊢
  have HS := Lib.hid (fun (m : Nat) (hm : m < 4294967296) W (hW : Below w.heap.size w W) => rsmall_any y m 0 vb W (hb.mono hW) (by omega) hm (by omega))
  have HC := Lib.hid (fun (s : Nat) v W (h1 : IsN W v s) (hW : Below w.heap.size w W) => rcmpB_any s r v va W h1 (ha.mono hW))
  obtain ⟨A, n, c, rfl, _⟩ := ha
  obtain ⟨B, m, d, rfl, _⟩ := hb
  clear hlt hq2
  go_enter Try.func52, Try.ntmps52
  go_wp2_with fail
  go_loopw [5, 6] (fun l h wr => ∃ lo hi : Nat, l = .int .u64 (lo : Int) ∧ h = .int .u64 (hi : Int) ∧ lo ≤ q ∧ q ≤ hi ∧ hi ≤ 4294967295 ∧ Below w.heap.size w wr) (fun l h _ => (intOf h - intOf l).toNat)
  case atStart => exact ⟨0, 4294967295, rfl, rfl, by omega, by omega, by omega, Below.refl _ _⟩
  case round =>
    obtain ⟨lo, hi, rfl, rfl, h1, h2, h3, hbe⟩ := hrel
    rcases Nat.eq_or_lt_of_le (Nat.le_trans h1 h2) with rfl | hlh
    · obtain rfl : lo = q := by omega
      go_wp2_with fail
      go_ret
      exact ⟨rfl, hbe⟩
    · obtain ⟨mid, hmid⟩ : ∃ mid, mid = (lo + hi + 1) / 2 := ⟨_, rfl⟩
      have hm1 : lo < mid := by omega
      have hm2 : mid ≤ hi := by omega
      have E : ((lo : Int) + hi + 1) / 2 = (mid : Int) := by omega
      have HSM := Lib.hid (HS.out mid (by omega) wr hbe)
      have HIFF := Lib.hid (HLE.out mid)
      clear hmid
      go_wp2_with fail
      refine HSM.out.mono ?_
      rintro e w1 ⟨v1, rfl, o1⟩
      have hb1 := hbe.trans (o1.below.mono hbe.size)
      have HCM := HC.out _ v1 w1 o1.isN hb1
      rw [Nat.add_zero] at HCM
      clear HSM o1
      by_cases hle : mid ≤ q
      · have hc : cmpI ((y * mid : Nat) : Int) (r : Int) ≤ 0 := by
          have := HIFF.out.1 hle
          rw [Nat.mul_comm] at this
          unfold cmpI
          split
          · omega
          · rw [if_neg (by omega)]; omega
        generalize cmpI ((y * mid : Nat) : Int) (r : Int) = cc at *
        have HCC := Lib.hid HCM
        have HEE := Lib.hid E
        clear HCM E
        go_wp2_with fail
        refine HCC.out.mono ?_
        rintro e w2 ⟨rfl, b2⟩
        go_wp2_with fail
        go_roundw
        case rel => exact ⟨mid, hi, congrArg (Value.int .u64) HEE.out, rfl, hle, h2, h3, hb1.trans (b2.mono hb1.size)⟩
        case measure =>
          have := HEE.out
          simp [intOf] <;> omega
      · have hc : ¬ cmpI ((y * mid : Nat) : Int) (r : Int) ≤ 0 := by
          have h4 : ¬ mid * y ≤ r := fun h => hle (HIFF.out.2 h)
          rw [Nat.mul_comm] at h4
          unfold cmpI
          rw [if_neg (by omega), if_pos (by omega)]
          omega
        generalize cmpI ((y * mid : Nat) : Int) (r : Int) = cc at *
        have HCC := Lib.hid HCM
        have HEE := Lib.hid E
        clear HCM E
        go_wp2_with fail
        refine HCC.out.mono ?_
        rintro e w2 ⟨rfl, b2⟩
        go_wp2_with fail
        go_roundw
        case rel => exact ⟨lo, mid - 1, rfl, congrArg (Value.int .u64) (by have := HEE.out; omega), h1, by omega, by omega, hb1.trans (b2.mono hb1.size)⟩
        case measure =>
          have := HEE.out
          simp [intOf] <;> omega

/-- The row of a literal of one element. -/
theorem own_lit (w : World) (x : Nat) (h : x < 4294967296) : Own (w.alloc (.cells #[.int .u32 (x : Int)] 43)) w.heap.size (.slice (some ⟨w.heap.size, 0, none⟩) 1 1) [x] :=
  ⟨World.ownsRow_lit w #[.int .u32 (x : Int)] 1 (Nat.le_refl _) (by unfold maxLen; omega) rfl, small_one h⟩

theorem rdivmod_zero (va vb : Value) (w : World) (hb : IsN w vb 0) :
    Calls Try.prog 39 #[va, vb] w (RetNo w) := by
  obtain ⟨B, m, d, rfl, hb⟩ := hb
  have hl := hb.len
  rw [dig_zero] at hl
  obtain rfl : m = 0 := hl.symm
  clear hl hb
  go_enter Try.func39, Try.ntmps39
  go_wp2_with fail
  go_ret3
  exact ⟨rfl, Below.refl _ _⟩

set_option maxHeartbeats 1000000 in
theorem rdivmod_any (x y : Nat) (va vb : Value) (w : World) (ha : IsN w va x) (hb : IsN w vb y) (hx : len x ≤ 274877906944) (hly : len y ≤ 274877906944) (hy : 0 < y) :
    Calls Try.prog 39 #[va, vb] w (RetD w (x / y) (x % y)) := by
  have hyl := len_pos hy
  have HB := Lib.hid (fun W (hW : Below w.heap.size w W) => hb.mono hW)
  obtain ⟨A, n, c, rfl, ha⟩ := ha
  obtain ⟨B, m, d, rfl, hb⟩ := hb
  have hm : len y = m := hb.len
  have hn : len x = n := ha.len
  have hmz : ((m : Int) == 0) = false := by rw [beq_eq_false_iff_ne]; omega
  have hn40 : n ≤ 274877906944 := by omega
  have hs0 := shortSt_start x hy
  rw [hn] at hs0
  have HS0 := Lib.hid hs0
  have HFI := Lib.hid (fun r v W (h1 : IsN W v r) (hW : Below w.heap.size w W) (hlt : r < 4294967296 * y) => rfits_any r y v (.slice B m d) W h1 (HB.out W hW) hly hy hlt)
  have HSM := Lib.hid (fun (q : Nat) (hq : q < 4294967296) W (hW : Below w.heap.size w W) => rsmall_any y q 0 (.slice B m d) W (HB.out W hW) (by omega) hq (by omega))
  have HCM := Lib.hid (fun (r : Nat) v W (h1 : IsN W v r) (hW : Below w.heap.size w W) => rcmpB_any r y v (.slice B m d) W h1 (HB.out W hW))
  have HYL := Lib.hid hly
  clear hs0 hm hn hb hyl
  go_enter Try.func39, Try.ntmps39
  go_wp2_with (at_make; refine wp_mk _ rfl _ _ rfl w.heap.size _ _ n rfl rfl rfl rfl (by omega) (Nat.le_refl _) ?_)
  intro w1 h1 g1
  have b1 : Below w.heap.size w w1 := (Below.refl _ _).grown g1 (Nat.le_refl _) (fun k h => by cases h)
  obtain ⟨g, hg⟩ : ∃ g, g = w.heap.size := ⟨_, rfl⟩
  rw [← hg] at h1 ⊢
  have HG := Lib.hid hg; clear hg
  have hg1 := h1.lt
  clear g1
  go_wp2_with fail
  go_loopw [8, 9] (fun r' i wr => ∃ (t : Int) (k r : Nat) (qs : List Nat), i = .int .i64 t ∧ t = (k : Int) - 1 ∧ k ≤ n ∧ ShortSt x y k r qs ∧ Own wr (g + 1) r' (dig r) ∧ Own wr g (.slice (some ⟨g, 0, none⟩) n n) (List.replicate k 0 ++ qs) ∧ Below w.heap.size w wr ∧ g < wr.heap.size) (fun _ i _ => (intOf i + 1).toNat)
  case atStart => exact ⟨_, n, 0, [], rfl, rfl, by omega, HS0.out, by rw [dig_zero]; exact Own.nil _ _, by rw [List.append_nil]; exact h1, b1, hg1⟩
  case round =>
    obtain ⟨t, k, r, qs, rfl, ht, hk, HS, hr, hown, hbe, hgl⟩ := hrel
    clear h1 b1 HS0 hg1
    cases k with
    | zero =>
      obtain rfl : t = -1 := by omega
      rw [List.replicate_zero, List.nil_append] at hown
      obtain ⟨e1, e2⟩ := shortSt_end HS
      have HTR := Lib.hid (rtrim_any qs _ _ _ wr hown.sl (by omega))
      have E1 := Lib.hid e1
      rw [e2] at hr
      clear hown e1 e2 HS ht
      go_wp2_with fail
      refine HTR.out.mono ?_
      rintro e w' ⟨v, rfl, o⟩
      go_wp2_with fail
      go_ret3
      exact ⟨_, _, rfl, by rw [← E1.out]; exact o.own.base_le hbe.size, (hr.below o.below).base_le (by rw [HG.out]; omega), hbe.trans (o.below.mono hbe.size)⟩
    | succ j =>
      obtain rfl : t = (j : Int) := by omega
      obtain ⟨b, off, u, rfl, _, hxc, HU, hu⟩ := ha.get hbe (k := j) (by omega)
      have hlr : len r ≤ len y := len_mono (Nat.le_of_lt HS.2.1)
      have hlt := shortSt_long HS HU.out hu
      have hs2 := (shortSt_step HS HU.out hu).1
      have hlp := len_push hu hlr
      have hdp := dig_push (r := r) hu
      obtain ⟨R, hR⟩ : ∃ R, R = u + 4294967296 * r := ⟨_, rfl⟩
      rw [← hR] at hlt hs2 hlp hdp
      clear hR
      have hq := (Nat.div_lt_iff_lt_mul hy).2 hlt
      have hmr : y * (R / y) ≤ R := Nat.mul_div_le _ _
      have hms : R - y * (R / y) = R % y := by
        have := Nat.div_add_mod R y
        omega
      have HDP := Lib.hid hdp
      obtain ⟨A', c', e, hrs, _⟩ := hr.form
      rw [length_dig] at e hrs
      subst e
      have HS2 := Lib.hid hs2
      have hlr2 : len r ≤ 274877906944 := Nat.le_trans hlr HYL.out
      have hlp2 : len R ≤ 274877906945 := Nat.le_trans hlp (by have := HYL.out; omega)
      have HMR := Lib.hid hmr
      have HMS := Lib.hid hms
      have HLT := Lib.hid hlt
      have HQ := Lib.hid hq
      clear hs2 hdp hlp hmr hms hlt hq ht HS HU hr
      go_wp2_with (at_builtin; refine wp_appS _ rfl _ _ rfl wr.heap.size _ [u] rfl (own_lit wr u hu) A' (len r) c' (dig r) rfl (hrs.mono ((Below.refl _ wr).alloc (Nat.le_refl _) _)) (by simp; omega) (by simp) ?_)
      intro v2 w2 h2 g2
      have b2 := ((Below.refl wr.heap.size wr).alloc (Nat.le_refl _) (.cells #[.int .u32 (u : Int)] 43)).grown g2 (by simp) (fun k hk => (own_lit wr u hu).blockGe k hk)
      have h2' : Own w2 wr.heap.size v2 (u :: dig r) := h2
      obtain ⟨A2, c2, e2, hs2, _⟩ := h2'.form
      have hl2 : (u :: dig r).length = len r + 1 := by rw [List.length_cons, length_dig]
      generalize (u :: dig r).length = L2 at *
      subst e2
      have hb2 := hbe.trans (b2.mono hbe.size)
      have HTR := rtrim_any (u :: dig r) A2 L2 c2 w2 hs2 (by omega)
      rw [HDP.out] at HTR
      have HT2 := Lib.hid HTR
      have HOW2 := Lib.hid (hown.below b2)
      have hg2 : g < w2.heap.size := Nat.lt_of_lt_of_le hgl b2.size
      clear hown HTR h2 h2' hs2 g2 hl2 HDP hrs hxc
      go_wp2_with fail
      refine HT2.out.mono ?_
      rintro e w3 ⟨v3, rfl, o3⟩
      have hb3 := hb2.trans (o3.below.mono hb2.size)
      have HC3 := HCM.out R v3 w3 o3.isN hb3
      have HOW3 := Lib.hid (HOW2.out.below o3.below)
      have hr3 := Lib.hid (o3.own.base_le (show g + 1 ≤ w2.heap.size from hg2))
      have hg3 : g < w3.heap.size := Nat.lt_of_lt_of_le hg2 o3.below.size
      have i3 := o3.isN
      clear o3 HOW2 HT2
      rcases Nat.lt_or_ge R y with hlt | hge
      · rw [cmpI_lt (by omega)] at HC3
        have HC := Lib.hid HC3
        have e1 := Nat.div_eq_of_lt hlt
        have e2 := Nat.mod_eq_of_lt hlt
        have hs3 := HS2.out
        rw [e1, e2] at hs3
        have HS3 := Lib.hid hs3
        clear HC3 e1 e2 hs3 hlt i3
        go_wp2_with fail
        refine HC.out.mono ?_
        rintro e w4 ⟨rfl, b4⟩
        go_wp2_with fail
        go_roundw
        case rel => exact ⟨(j : Int) - 1, j, R, 0 :: qs, by go_num, rfl, by omega, HS3.out, hr3.out.below b4, by
          have := HOW3.out.below b4
          rw [List.replicate_succ', List.append_assoc] at this
          exact this, hb3.trans (b4.mono hb3.size), Nat.lt_of_lt_of_le hg3 b4.size⟩
        case measure => simp [intOf] <;> omega
      · have hcm : 0 ≤ cmpI (R : Int) (y : Int) := by
          unfold cmpI; rw [if_neg (by omega)]; split <;> omega
        generalize cmpI (R : Int) (y : Int) = cc at *
        have HC := Lib.hid HC3
        clear HC3
        go_wp2_with fail
        refine HC.out.mono ?_
        rintro e w4 ⟨rfl, b4⟩
        have hb4 := hb3.trans (b4.mono hb3.size)
        have i4 := i3.mono b4
        have HF := HFI.out R v3 w4 i4 hb4 HLT.out
        obtain ⟨q, hq⟩ : ∃ q, R / y = q := ⟨_, rfl⟩
        rw [hq] at HF
        have hq32 : q < 4294967296 := by rw [← hq]; exact HQ.out
        have HMS2 := HMS.out
        have HMR2 := HMR.out
        have HS3 := HS2.out
        rw [hq] at HMS2 HMR2 HS3
        have HM1 := Lib.hid HMS2
        have HM2 := Lib.hid HMR2
        have HS4 := Lib.hid HS3
        have HFF := Lib.hid HF
        clear HF HMS2 HMR2 HS3 HMS HMR HS2 hq HQ i3 HC
        go_wp2_with fail
        refine HFF.out.mono ?_
        rintro e w5 ⟨rfl, b5⟩
        have hb5 := hb4.trans (b5.mono hb4.size)
        have hown := (HOW3.out.below b4).below b5
        have hfree := hown.free j
        obtain ⟨z, hz, _, _⟩ := hown.cell (j := j) (by omega)
        have hst := hown.store (j := j) (x := q) hq32
        rw [set_rep] at hst
        obtain ⟨q2, hqc, HQ2, _⟩ := hst.cell (j := j) (by omega)
        obtain rfl : q = q2 := by
          rw [← HQ2.out]
          have := nth_mid (List.replicate j 0) qs q (List.length_replicate ..)
          rw [List.append_assoc] at this
          exact this.symm
        have hb6 := hb5.setCell (p := ⟨g, j, none⟩) (by rw [HG.out]; exact Nat.le_refl _) (.int .u32 (q : Int))
        have i6 : IsN (w5.setCell ⟨g, j, none⟩ (.int .u32 (q : Int))) v3 R := isN_of_own (((hr3.out.below b4).below b5).far (Nat.lt_succ_self g) _) rfl
        have HSM2 := Lib.hid (HSM.out q hq32 _ hb6)
        have HST := Lib.hid hst
        have hg6 : g < (w5.setCell ⟨g, j, none⟩ (.int .u32 (q : Int))).heap.size := Nat.lt_of_lt_of_le (Nat.lt_of_lt_of_le hg3 b4.size) (Nat.le_trans b5.size (by simp [World.setCell]))
        clear hown hst HQ2 hr3 HOW3 HFF
        go_wp2_with fail
        refine HSM2.out.mono ?_
        rintro e w7 ⟨v7, rfl, o7⟩
        rw [Nat.add_zero] at o7
        have hb7 := hb6.trans (o7.below.mono hb6.size)
        have HL := rless_any R (y * q) v3 v7 w7 (i6.mono o7.below) o7.isN (Nat.le_trans hlp2 (by omega)) HM2.out
        rw [HM1.out] at HL
        have HLL := Lib.hid HL
        have HST7 := Lib.hid (HST.out.below o7.below)
        have hg7 : g < w7.heap.size := Nat.lt_of_lt_of_le hg6 o7.below.size
        clear HL HSM2 HST o7 i6
        go_wp2_with fail
        refine HLL.out.mono ?_
        rintro e w8 ⟨v8, rfl, o8⟩
        go_wp2_with fail
        go_roundw
        case rel => exact ⟨(j : Int) - 1, j, R % y, q :: qs, by go_num, rfl, by omega, HS4.out, o8.own.base_le hg7, HST7.out.below o8.below, hb7.trans (o8.below.mono hb7.size), Nat.lt_of_lt_of_le hg7 o8.below.size⟩
        case measure => simp [intOf] <;> omega

set_option maxHeartbeats 400000 in
theorem rdivides_any (x y : Nat) (va vb : Value) (w : World) (ha : IsN w va x) (hb : IsN w vb y) (hx : len x ≤ 274877906944) (hly : len y ≤ 274877906944) :
    Calls Try.prog 25 #[vb, va] w fun e w' => e = .returned (.bool (dvB y x)) ∧ Below w.heap.size w w' := by
  rcases Nat.eq_zero_or_pos y with rfl | hy
  · obtain ⟨A, n, c, rfl, ha⟩ := ha
    obtain ⟨B, m, d, rfl, hb⟩ := hb
    have hm := hb.len
    rw [dig_zero] at hm
    obtain rfl : m = 0 := hm.symm
    have hn : len x = n := ha.len
    have e : dvB 0 x = decide (n = 0) := by
      unfold dvB
      rw [decide_eq_decide]
      constructor
      · rintro (h | h)
        · rw [h, len_zero] at hn; exact hn.symm
        · omega
      · intro h
        exact .inl (len_eq_zero (by omega))
    rw [e]
    clear hm hb ha hn e
    rcases Nat.eq_zero_or_pos n with rfl | hn
    · go_enter Try.func25, Try.ntmps25
      go_wp2_with fail
      go_ret
      exact ⟨rfl, Below.refl _ _⟩
    · have hnz : ((n : Int) == 0) = false := by rw [beq_eq_false_iff_ne]; omega
      rw [show decide (n = 0) = false from decide_eq_false (by omega)]
      go_enter Try.func25, Try.ntmps25
      go_wp2_with fail
      go_ret
      exact ⟨rfl, Below.refl _ _⟩
  · have H := Lib.hid (rdivmod_any x y va vb w ha hb hx hly hy)
    have e : dvB y x = decide (len (x % y) = 0) := by
      unfold dvB
      rw [decide_eq_decide]
      constructor
      · rintro (h | h)
        · rw [h, Nat.zero_mod, len_zero]
        · rw [h.2, len_zero]
      · intro h
        exact .inr ⟨hy, len_eq_zero h⟩
    have hyl := len_pos hy
    obtain ⟨B, m, d, rfl, hb⟩ := hb
    have hm : len y = m := hb.len
    have hmz : ((m : Int) == 0) = false := by rw [beq_eq_false_iff_ne]; omega
    rw [e]
    clear ha hb hm e hyl
    obtain ⟨k, hk⟩ : ∃ k, len (x % y) = k := ⟨_, rfl⟩
    rw [hk]
    have HK := Lib.hid hk
    clear hk
    rcases Nat.eq_zero_or_pos k with rfl | hk
    · go_enter Try.func25, Try.ntmps25
      go_wp2_with fail
      refine H.out.mono ?_
      rintro e w1 ⟨vq, vr, rfl, o1, o2, b1⟩
      obtain ⟨A, c, rfl, _, _⟩ := o2.form
      rw [length_dig, HK.out]
      clear o2
      go_wp2_with fail
      go_ret
      exact ⟨rfl, b1⟩
    · have hkz : ((k : Int) == 0) = false := by rw [beq_eq_false_iff_ne]; omega
      rw [show decide (k = 0) = false from decide_eq_false (by omega)]
      go_enter Try.func25, Try.ntmps25
      go_wp2_with fail
      refine H.out.mono ?_
      rintro e w1 ⟨vq, vr, rfl, o1, o2, b1⟩
      obtain ⟨A, c, rfl, _, _⟩ := o2.form
      rw [length_dig, HK.out]
      clear o2
      go_wp2_with fail
      go_ret
      exact ⟨rfl, b1⟩

theorem dvB_exB {x y : Nat} (hy : 0 < y) : dvB y x = exB x y := by
  unfold dvB exB
  rw [decide_eq_decide]
  constructor
  · rintro (h | h)
    · exact ⟨hy, by rw [h, Nat.zero_mod]⟩
    · exact h
  · exact .inr

end Go.Proofs.Ytdlojigbphhjaaa
