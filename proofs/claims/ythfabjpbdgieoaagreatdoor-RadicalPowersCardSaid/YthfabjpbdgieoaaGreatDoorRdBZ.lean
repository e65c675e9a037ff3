/- How large enclosures, roots and powers are; which enclosures are small. -/
import Derived.Test.YthfabjpbdgieoaaGreatDoorRdAZ
namespace Go.Proofs.YthfabjpbdgieoaaGreatDoor
open Go.RowKit
set_option linter.unusedVariables false
set_option linter.unusedSimpArgs false
set_option maxRecDepth 100000

theorem dq_lt_iff (C D F : Int) : dq C F < dq D F ↔ C < D := by
  rw [← Rat.not_le, dq_le_iff]
  omega
theorem dq1_mono {a b : Int} (h : a ≤ b) : dq 1 a ≤ dq 1 b := by
  obtain ⟨j, rfl⟩ : ∃ j : Nat, b = a + (j : Int) := ⟨(b - a).toNat, by omega⟩
  rw [← dq_shl, dq_le_iff]
  have := pow2_pos j
  omega
theorem dq1_lt {a b : Int} (h : a < b) : dq 1 a < dq 1 b := by
  refine rle_lt ?_ (dq1_mono (show a + 1 ≤ b from h))
  rw [show a + 1 = a + ((1 : Nat) : Int) from rfl, ← dq_shl, dq_lt_iff]
  decide
theorem dq_shl1 (j : Nat) (e : Int) : dq ((2 ^ j : Nat) : Int) e = dq 1 (e + (j : Int)) := by
  rw [← dq_shl, Int.one_mul, cast2]
/-- The absolute value of a dyadic, by its highest digit. -/
theorem top_iff {m e K : Int} (hK : 0 ≤ K) : topZ m e ≤ K ↔ -(dq 1 K) < dq m e ∧ dq m e < dq 1 K := by
  unfold topZ
  by_cases h0 : m = 0
  · subst h0
    rw [if_pos rfl, dq_zero]
    have hp := dq_pos K
    refine ⟨fun _ => ⟨?_, hp⟩, fun _ => hK⟩
    have := Rat.neg_lt_neg hp
    rwa [Rat.neg_zero] at this
  · rw [if_neg h0]
    have hp : 0 < m.natAbs := by omega
    have hb := blen_pos hp
    have lo := two_pow_blen_le hp
    have hi := lt_two_pow_blen m.natAbs
    have e1 : dq ((2 ^ (blen m.natAbs - 1) : Nat) : Int) e ≤ dq (m.natAbs : Int) e := (dq_le_iff _ _ _).2 (by omega)
    have e2 : dq (m.natAbs : Int) e < dq ((2 ^ blen m.natAbs : Nat) : Int) e := (dq_lt_iff _ _ _).2 (by omega)
    rw [dq_shl1] at e1 e2
    have e3 : 0 ≤ dq (m.natAbs : Int) e := dq_nn e (by omega)
    have key : (blen m.natAbs : Int) + e ≤ K ↔ dq (m.natAbs : Int) e < dq 1 K := by
      constructor
      · intro h
        exact rle_lt e2 (dq1_mono (by omega))
      · intro h
        by_cases hc : (blen m.natAbs : Int) + e ≤ K
        · exact hc
        · have := dq1_mono (a := K) (b := e + ((blen m.natAbs - 1 : Nat) : Int)) (by omega)
          exact absurd (Rat.le_trans this e1) (Rat.not_le.2 h)
    rw [key]
    have hn : -(dq 1 K) < 0 := by
      have := Rat.neg_lt_neg (dq_pos K)
      rwa [Rat.neg_zero] at this
    rcases Int.lt_or_le m 0 with hm | hm
    · rw [show m = -(m.natAbs : Int) from by omega, dq_neg, show (-(m.natAbs : Int)).natAbs = m.natAbs from by omega]
      constructor
      · intro h
        refine ⟨Rat.neg_lt_neg h, rlt_le ?_ (dq_pos K)⟩
        have := Rat.neg_le_neg e3
        rwa [Rat.neg_zero] at this
      · rintro ⟨h, _⟩
        have := Rat.neg_lt_neg h
        rwa [Rat.neg_neg, Rat.neg_neg] at this
    · rw [show ((m.natAbs : Int)) = m from by omega] at e3 ⊢
      exact ⟨fun h => ⟨rle_lt hn e3, h⟩, fun h => h.2⟩
theorem on_mk {C k : Int} (hr : mkR C (-k) = 0) (hk : 0 ≤ k ∧ k ≤ 4096) : onB (mkM C (-k)) (mkE C (-k)) 8192 = true := by
  unfold onB
  rw [show permB 8192 = true from by decide, Bool.true_and]
  by_cases h0 : C = 0
  · have h1 : mkM C (-k) = 0 := by subst h0; unfold mkM; rw [if_pos hr, oddM_zero]
    rw [h1, decide_eq_true rfl, Bool.true_or]
  · have h2 : mkE C (-k) = oddE C (-k) := by unfold mkE; rw [if_neg h0, if_pos hr]
    rw [h2]
    unfold oddE
    rw [decide_eq_true (show -8192 ≤ -k + (tz C.natAbs : Int) by omega), Bool.or_true]
theorem small_iff {m e n f : Int} (h1 : onB m e 8192 = true) (h2 : onB n f 8192 = true) (hle : dq m e ≤ dq n f) : smallB m e n f = true ↔ topZ m e ≤ 2048 ∧ topZ n f ≤ 2048 := by
  unfold smallB
  rw [h1, h2, decide_eq_true ((dcm_le m e n f).2 hle)]
  simp
/-- An enclosure of what lies between the ends of a small one is small; two small ones around the ends make a small one. -/
theorem enB_iff {lo hi : Rat} {k : Int} (hk : workB k = true) (h1 : enF lo k) (h2 : upF hi k) (hle : lo ≤ hi) : enB lo hi k = true ↔ topZ (enM lo k) (enE lo k) ≤ 2048 ∧ topZ (upM hi k) (upE hi k) ≤ 2048 := by
  obtain ⟨_, hk0⟩ := work_perm hk
  unfold enB
  exact small_iff (on_mk h1 hk0) (on_mk h2 hk0) (Rat.le_trans (Rat.le_trans (en_lo h1) hle) (up_hi h2))
theorem enB_one {lo q hi : Rat} {k : Int} (hk : workB k = true) (h1 : enF lo k) (h2 : upF hi k) (h3 : enF q k) (h4 : upF q k) (a : lo ≤ q) (b : q ≤ hi) (h : enB lo hi k = true) : enB q q k = true := by
  rw [enB_iff hk h1 h2 (Rat.le_trans a b), top_iff (by omega), top_iff (by omega)] at h
  rw [enB_iff hk h3 h4 Rat.le_refl, top_iff (by omega), top_iff (by omega)]
  have x1 := en_mono (Int.le_refl k) a h1 h3
  have x2 := up_mono (Int.le_refl k) b h2 h4
  have x3 := Rat.le_trans (en_lo h3) (up_hi h4)
  exact ⟨⟨rle_lt h.1.1 x1, rlt_le (Rat.le_trans x3 x2) h.2.2⟩, rle_lt h.1.1 (Rat.le_trans x1 x3), rlt_le x2 h.2.2⟩
theorem enB_two {lo hi : Rat} {k : Int} (hk : workB k = true) (h1 : enF lo k) (h2 : upF hi k) (h3 : upF lo k) (h4 : enF hi k) (hle : lo ≤ hi) (a : enB lo lo k = true) (b : enB hi hi k = true) : enB lo hi k = true := by
  rw [enB_iff hk h1 h3 Rat.le_refl] at a
  rw [enB_iff hk h4 h2 Rat.le_refl] at b
  exact (enB_iff hk h1 h2 hle).2 ⟨a.1, b.2⟩
theorem en_dv {q : Rat} {k : Int} (h : enF q k) : Dv (enM q k) (enE q k) := mk_ok h
theorem up_dv {q : Rat} {k : Int} (h : upF q k) : Dv (upM q k) (upE q k) := mk_ok h
/-- The lesser one of two floors is the floor of the lesser one; likewise the greater one of two ceilings. -/
theorem lst_en {a b : Rat} {k : Int} (h1 : enF a k) (h2 : enF b k) : lstD (enM a k) (enE a k) (enM b k) (enE b k) = (enM (rmin a b) k, enE (rmin a b) k) := by
  unfold rmin lstD
  by_cases hab : a ≤ b
  · rw [if_pos hab, if_pos ((dcm_le _ _ _ _).2 (en_mono (Int.le_refl k) hab h1 h2))]
  · rw [if_neg hab]
    split
    · rename_i h
      have x1 := (dcm_le _ _ _ _).1 h
      have x2 := en_mono (Int.le_refl k) ((Rat.le_total (a := a) (b := b)).resolve_left hab) h2 h1
      obtain ⟨e1, e2⟩ := dv_uniq (en_dv h1) (en_dv h2) (Rat.le_antisymm x1 x2)
      rw [e1, e2]
    · rfl
theorem gst_up {a b : Rat} {k : Int} (h1 : upF a k) (h2 : upF b k) : gstD (upM a k) (upE a k) (upM b k) (upE b k) = (upM (rmax a b) k, upE (rmax a b) k) := by
  unfold rmax gstD
  by_cases hab : a ≤ b
  · rw [if_pos hab]
    have x2 := up_mono (Int.le_refl k) hab h2 h1
    split
    · rename_i h
      have x1 := (dcm_ge _ _ _ _).1 h
      obtain ⟨e1, e2⟩ := dv_uniq (up_dv h1) (up_dv h2) (Rat.le_antisymm x2 x1)
      rw [e1, e2]
    · rfl
  · rw [if_neg hab, if_pos ((dcm_ge _ _ _ _).2 (up_mono (Int.le_refl k) ((Rat.le_total (a := a) (b := b)).resolve_left hab) h1 h2))]
/-- A number of moderate size, and how long its cuts are. -/
def Bd (q : Rat) (j : Nat) : Prop := -(dq 1 (j : Int)) ≤ q ∧ q ≤ dq 1 (j : Int)
theorem bd_between {a q b : Rat} {j : Nat} (h1 : Bd a j) (h2 : Bd b j) (x : a ≤ q) (y : q ≤ b) : Bd q j := ⟨Rat.le_trans h1.1 x, Rat.le_trans y h2.2⟩
theorem bd_nn {q : Rat} {j : Nat} (h0 : 0 ≤ q) (h : q ≤ dq 1 (j : Int)) : Bd q j := by
  refine ⟨Rat.le_trans ?_ h0, h⟩
  have := Rat.neg_le_neg (Rat.le_of_lt (dq_pos (j : Int)))
  rwa [Rat.neg_zero] at this
theorem zl_pow {C : Int} {t : Nat} (h1 : -((2 ^ t : Nat) : Int) ≤ C) (h2 : C ≤ ((2 ^ t : Nat) : Int)) : zl C ≤ t / 32 + 1 := by
  have h3 : C.natAbs ≤ 2 ^ t := by omega
  exact Nat.le_trans (len_mono h3) (len_two t)
theorem bd_top {m e : Int} {j : Nat} (h : Bd (dq m e) j) (hj : j ≤ 2047) : topZ m e ≤ 2048 := by
  rw [top_iff (by omega)]
  have h1 := dq1_lt (show (j : Int) < 2048 by omega)
  exact ⟨rle_lt (Rat.neg_lt_neg h1) h.1, rlt_le h.2 h1⟩
/-- The parts of a number C * 2^-k of moderate size. -/
theorem bd_parts {C k : Int} {j : Nat} (h : Bd (dq C (-k)) j) (hk : 0 ≤ k) : zl C ≤ (j + k.toNat) / 32 + 1 := by
  obtain ⟨t, rfl⟩ : ∃ t : Nat, k = (t : Int) := ⟨k.toNat, by omega⟩
  have e1 : dq 1 (j : Int) = dq ((2 ^ (j + t) : Nat) : Int) (-(t : Int)) := by rw [dq_shl1]; congr 1; omega
  have h1 := h.1
  have h2 := h.2
  rw [e1, ← dq_neg, dq_le_iff] at h1
  rw [e1, dq_le_iff] at h2
  exact zl_pow (t := j + t) h1 h2
theorem mkE_in (C : Int) (k : Int) (hk : 0 ≤ k) : -k ≤ mkE C (-k) ∧ mkE C (-k) ≤ 32 * (zl C : Int) := by
  unfold mkE
  by_cases h0 : C = 0
  · rw [if_pos h0]; omega
  · rw [if_neg h0]
    split
    · unfold oddE
      have ht := tz_le8 C.natAbs (by omega)
      have e1 : zl C = len C.natAbs := rfl
      omega
    · omega
end Go.Proofs.YthfabjpbdgieoaaGreatDoor
