/- The order of dyadics; equal numbers have one valid dyadic; the dyadic of a dyadic's fraction; a dyadic's text and the dyadic of a text. -/
import Derived.Test.YtpgiolbnmlbjbaaGreatDoorDyMath
import Derived.Test.YtpgiolbnmlbjbaaGreatDoorRefDyE
import Derived.Test.YtpgiolbnmlbjbaaGreatDoorRefDyF
import Derived.Test.YtpgiolbnmlbjbaaGreatDoorDyTxt
namespace Go.Proofs.YtpgiolbnmlbjbaaGreatDoor
open Go.RowKit
set_option linter.unusedVariables false
set_option linter.unusedSimpArgs false
set_option maxRecDepth 100000

theorem cmpI_scale (a b : Int) {c : Int} (h : 0 < c) : cmpI (a * c) (b * c) = cmpI a b := by
  rcases Int.lt_trichotomy a b with h1 | h1 | h1
  · rw [cmpI_lt h1, cmpI_lt (Int.mul_lt_mul_of_pos_right h1 h)]
  · subst h1; rw [cmpI_eq, cmpI_eq]
  · rw [cmpI_gt h1, cmpI_gt (Int.mul_lt_mul_of_pos_right h1 h)]
theorem pow2_pos (n : Nat) : (0 : Int) < 2 ^ n := by
  rw [← cast2]
  have := Nat.pow_pos (n := n) (show 0 < 2 by omega)
  omega
/-- The order of two dyadics is that of their fractions. -/
theorem dy_cmp (m e n k F : Int) (h1 : F ≤ e) (h2 : F ≤ k) :
    cmpI (m * 2 ^ e.toNat * ((2 ^ (-k).toNat : Nat) : Int)) (n * 2 ^ k.toNat * ((2 ^ (-e).toNat : Nat) : Int)) = cmpI (m * 2 ^ (e - F).toNat) (n * 2 ^ (k - F).toNat) := by
  rw [cast2, cast2, ← cmpI_scale _ _ (pow2_pos (-F).toNat), ← cmpI_scale (m * 2 ^ (e - F).toNat) (n * 2 ^ (k - F).toNat) (pow2_pos (F.toNat + (-e).toNat + (-k).toNat))]
  congr 1
  · rw [Int.mul_assoc m, Int.mul_assoc m, Int.mul_assoc m, ← Int.pow_add, ← Int.pow_add, ← Int.pow_add]
    congr 2
    omega
  · rw [Int.mul_assoc n, Int.mul_assoc n, Int.mul_assoc n, ← Int.pow_add, ← Int.pow_add, ← Int.pow_add]
    congr 2
    omega
theorem dv_odd {m e : Int} (h : Dv m e) (h0 : m ≠ 0) : m.natAbs % 2 = 1 := by
  rcases h with ⟨h2, _⟩ | ⟨_, h2⟩
  · exact absurd h2 h0
  · unfold fits8 at h2
    rw [Bool.and_eq_true, Bool.and_eq_true, Bool.and_eq_true] at h2
    have := h2.2.2.2
    unfold bitB at this
    rw [decide_eq_true_iff, Nat.pow_zero, Nat.div_one] at this
    exact this
theorem dv_zero {m e : Int} (h : Dv m e) (h0 : m = 0) : e = 0 := by
  rcases h with ⟨_, h2⟩ | ⟨h2, _⟩
  · exact h2
  · exact absurd h0 h2
theorem tz_odd {x : Nat} (h : x % 2 = 1) (k : Nat) : tz (x * 2 ^ k) = k := by
  have : x * 2 ^ k = 2 ^ k * (2 * (x / 2) + 1) := by
    rw [Nat.mul_comm]
    congr 1
    omega
  rw [this]
  exact tz_mul _ _
theorem tz_two (j : Nat) : tz (2 ^ j) = j := by
  have := tz_odd (x := 1) rfl j
  rwa [Nat.one_mul] at this
theorem abs_shl (m : Int) (k : Nat) : (m * 2 ^ k).natAbs = m.natAbs * 2 ^ k := by
  rw [Int.natAbs_mul, Int.natAbs_pow]
  rfl
/-- A number has one valid dyadic. -/
theorem dv_uniq {m e n k : Int} (h1 : Dv m e) (h2 : Dv n k) (h : dq m e = dq n k) : m = n ∧ e = k := by
  obtain ⟨a1, a2⟩ := dq_form h1
  obtain ⟨b1, b2⟩ := dq_form h2
  rw [h, b1] at a1
  rw [h, b2] at a2
  have hx : (-k).toNat = (-e).toNat := by
    have := congrArg tz a2
    rwa [tz_two, tz_two] at this
  by_cases hm : m = 0
  · have he := dv_zero h1 hm
    rw [hm, Int.zero_mul] at a1
    have hn : n = 0 := by
      rcases Int.mul_eq_zero.1 a1 with h3 | h3
      · exact h3
      · exact absurd h3 (pow2_ne _)
    exact ⟨by rw [hm, hn], by rw [he, dv_zero h2 hn]⟩
  · have hn : n ≠ 0 := fun h3 => by
      rw [h3, Int.zero_mul] at a1
      rcases Int.mul_eq_zero.1 a1.symm with h4 | h4
      · exact hm h4
      · exact absurd h4 (pow2_ne _)
    have om := dv_odd h1 hm
    have on := dv_odd h2 hn
    have ht : k.toNat = e.toNat := by
      have h3 := congrArg (fun z : Int => tz z.natAbs) a1
      simp only [abs_shl] at h3
      rwa [tz_odd on, tz_odd om] at h3
    have hk : e = k := by omega
    rw [ht] at a1
    exact ⟨(Int.eq_of_mul_eq_mul_right (pow2_ne _) a1).symm, hk⟩
/-- Comparison tells whether two valid dyadics are one. -/
theorem cmp_same {m e n k : Int} (h1 : Dv m e) (h2 : Dv n k) : decide (cmpI (m * 2 ^ (e - min e k).toNat) (n * 2 ^ (k - min e k).toNat) = 0) = (decide (e = k) && decide (m = n)) := by
  by_cases h : cmpI (m * 2 ^ (e - min e k).toNat) (n * 2 ^ (k - min e k).toNat) = 0
  · obtain ⟨a, b⟩ := dv_uniq h1 h2 (dq_eq (cmpI_zero h) (by omega) (by omega))
    subst a; subst b
    rw [decide_eq_true h, decide_eq_true rfl, decide_eq_true rfl]
    rfl
  · rw [decide_eq_false h]
    symm
    rw [Bool.and_eq_false_iff]
    by_cases he : e = k
    · right
      refine decide_eq_false (fun hm => h ?_)
      subst he; subst hm
      exact cmpI_eq _
    · left; exact decide_eq_false he
theorem blen_two (j : Nat) : blen (2 ^ j) = j + 1 := blen_of (Nat.pow_lt_pow_right (by omega) (by omega)) (Nat.le_refl _)
theorem odd_shl {m : Int} (h : m.natAbs % 2 = 1) (j : Nat) : oddM (m * 2 ^ j) = m := by
  have h1 := odd_form (m * 2 ^ j)
  rw [abs_shl, tz_odd h] at h1
  exact Int.eq_of_mul_eq_mul_right (pow2_ne _) h1
theorem dv_bound {m e : Int} (h : Dv m e) : -65536 ≤ e ∧ e ≤ 65536 := by
  rcases h with ⟨_, h2⟩ | ⟨_, h2⟩
  · omega
  · unfold fits8 at h2
    rw [Bool.and_eq_true, Bool.and_eq_true, Bool.and_eq_true] at h2
    exact ⟨of_decide_eq_true h2.2.1, of_decide_eq_true h2.2.2.1⟩
/-- The dyadic of a valid dyadic's fraction is that dyadic. -/
theorem mk_back {m e : Int} (h : Dv m e) : mkR (m * 2 ^ e.toNat) (-((-e).toNat : Int)) = 0 ∧ mkM (m * 2 ^ e.toNat) (-((-e).toNat : Int)) = m ∧ mkE (m * 2 ^ e.toNat) (-((-e).toNat : Int)) = e := by
  have hb := dv_bound h
  by_cases hm : m = 0
  · have he := dv_zero h hm
    subst hm; subst he
    rw [Int.zero_mul]
    have hr : mkR 0 (-((-(0 : Int)).toNat : Int)) = 0 := by decide
    exact ⟨hr, by unfold mkM; rw [hr, if_pos rfl, oddM_zero], by unfold mkE; rw [if_pos rfl]⟩
  · have ho := dv_odd h hm
    have h0 : m * 2 ^ e.toNat ≠ 0 := fun h3 => by
      rcases Int.mul_eq_zero.1 h3 with h4 | h4
      · exact hm h4
      · exact absurd h4 (pow2_ne _)
    have hE : oddE (m * 2 ^ e.toNat) (-((-e).toNat : Int)) = e := by
      unfold oddE
      rw [abs_shl, tz_odd ho]
      omega
    have hf : fits8 m e = true := by
      rcases h with ⟨h2, _⟩ | ⟨_, h2⟩
      · exact absurd h2 hm
      · exact h2
    have hr : mkR (m * 2 ^ e.toNat) (-((-e).toNat : Int)) = 0 := by
      unfold mkR
      rw [if_neg (by omega), if_neg h0, odd_shl ho, hE, hf]
      rfl
    refine ⟨hr, ?_, ?_⟩
    · unfold mkM; rw [if_pos hr, odd_shl ho]
    · unfold mkE; rw [if_neg h0, if_pos hr, hE]
theorem from_back {m e : Int} (h : Dv m e) : frB (m * 2 ^ e.toNat) (2 ^ (-e).toNat) = true ∧ frM (m * 2 ^ e.toNat) (2 ^ (-e).toNat) = m ∧ frE (m * 2 ^ e.toNat) (2 ^ (-e).toNat) = e := by
  have hb := dv_bound h
  obtain ⟨e1, e2, e3⟩ := mk_back h
  have hP : frP (2 ^ (-e).toNat) = true := by
    unfold frP
    rw [blen_two, tz_two, Nat.add_sub_cancel, decide_eq_true rfl, decide_eq_true (by omega)]
    rfl
  unfold frB frM frE
  rw [hP, blen_two, Nat.add_sub_cancel, e1, e2, e3]
  exact ⟨rfl, rfl, rfl⟩
/-- A text that is read is the text of its dyadic. -/
theorem fmt_read {l : List Nat} (h : errD8 l = 0) : fmtD (valM8 l) (valE8 l) = l := by
  have hlen : ¬ 20010 < l.length := fun h2 => by rw [(err8_long h2).1] at h; exact absurd h (by decide)
  have hok : ok8 l = true := by
    cases hk : ok8 l
    · rw [(err8_bad hlen hk).1] at h; exact absurd h (by decide)
    · rfl
  obtain ⟨_, e2, e3⟩ := err8_good hlen hok
  rw [e2, e3]
  unfold ok8 at hok
  rw [Bool.and_eq_true, decide_eq_true_iff] at hok
  obtain ⟨hm, hok⟩ := hok
  obtain ⟨a, b, rfl, hna⟩ := cut8 l hm
  rw [hd8_cut hna, tl8_cut hna] at *
  unfold okD8 at hok
  rw [Bool.and_eq_true, Bool.and_eq_true, Bool.and_eq_true, decide_eq_true_iff, decide_eq_true_iff] at hok
  unfold fmtD
  have hz : zi (valP b) = valP b := by
    have := hok.2.2.1
    unfold zb at this
    rw [decide_eq_true_iff] at this
    exact zi_yes this.1 this.2
  rw [hz, fmt_parse hok.1, fmt_parse hok.2.1]
theorem fmt_no112 (z : Int) : 112 ∉ fmt z := fun h => by
  have hd : ∀ c ∈ dd z.natAbs, c ≠ 112 := fun c hc e => by
    have := good_all (good_dd z.natAbs)
    rw [List.all_eq_true] at this
    have := this c hc
    rw [e] at this
    exact absurd this (by decide)
  unfold fmt at h
  split at h
  · rcases List.mem_cons.1 h with h | h
    · exact absurd h (by decide)
    · exact hd _ h rfl
  · exact hd _ h rfl
/-- The text of a valid dyadic that is short enough is read as this dyadic. -/
theorem read_fmt {m e : Int} (h : Dv m e) (hl : zl m ≤ 1900) : errD8 (fmtD m e) = 0 ∧ valM8 (fmtD m e) = m ∧ valE8 (fmtD m e) = e := by
  have hb := dv_bound h
  have l1 : (fmt m).length ≤ 10 * 1900 + 2 := fmt_length hl
  have l2 : (fmt e).length ≤ 10 * 1 + 2 := fmt_length (len_le1 (x := e.natAbs) (by omega))
  have hlen : ¬ 20010 < (fmtD m e).length := by
    unfold fmtD
    rw [List.length_append, List.length_cons]
    omega
  have hh : hd8 (fmtD m e) = fmt m := hd8_cut (fmt_no112 m)
  have ht : tl8 (fmtD m e) = fmt e := tl8_cut (fmt_no112 m)
  obtain ⟨p1, p2⟩ := parse_fmt m (by omega)
  obtain ⟨q1, q2⟩ := parse_fmt e (by omega)
  have hz : zi e = e := zi_yes (by omega) (by omega)
  have hok : ok8 (fmtD m e) = true := by
    unfold ok8
    rw [hh, ht, decide_eq_true (show 112 ∈ fmtD m e by unfold fmtD; simp), Bool.true_and]
    unfold okD8
    rw [p1, p2, q1, q2, hz, zb_yes (by omega) (by omega), decide_eq_true rfl, Bool.true_and, Bool.true_and, Bool.true_and]
    unfold vd8
    rcases h with ⟨h1, h2⟩ | ⟨h1, h2⟩
    · rw [if_pos h1]; exact decide_eq_true h2
    · rw [if_neg h1]; exact h2
  obtain ⟨e1, e2, e3⟩ := err8_good hlen hok
  rw [e1, e2, e3, hh, ht, p2, q2, hz]
  exact ⟨rfl, rfl, rfl⟩

end Go.Proofs.YtpgiolbnmlbjbaaGreatDoor
