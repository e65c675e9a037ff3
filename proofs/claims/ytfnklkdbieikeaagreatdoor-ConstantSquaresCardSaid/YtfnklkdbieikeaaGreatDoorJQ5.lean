/- Joined: RdA, RdB, RdW, RdPA (what the law leans on). -/
import Derived.Test.YtfnklkdbieikeaaGreatDoorBaseI
import Derived.Test.YtfnklkdbieikeaaGreatDoorBaseJ
import Derived.Test.YtfnklkdbieikeaaGreatDoorBaseS
import Derived.Test.YtfnklkdbieikeaaGreatDoorBaseG
import Derived.Test.YtfnklkdbieikeaaGreatDoorGrPC
import Derived.Test.YtfnklkdbieikeaaGreatDoorRefGrB
import Derived.Test.YtfnklkdbieikeaaGreatDoorBaseX
import Derived.Test.YtfnklkdbieikeaaGreatDoorJQ4
import Derived.Deep.DrawnRows
import Derived.Deep.RegionHeld3
namespace Go.Proofs.YtfnklkdbieikeaaGreatDoor
open Go.RowKit
set_option linter.unusedVariables false
set_option linter.unusedSimpArgs false
set_option maxRecDepth 100000
attribute [local go_sem ↓] Go.wp_at_zero Go.wp_at_succ

/-- The power of a fraction, with a natural exponent and with any. -/
def qpow (q : Rat) : Nat → Rat
  | 0 => 1
  | n + 1 => qpow q n * q
def pw (q : Rat) (n : Int) : Rat := if 0 ≤ n then qpow q n.toNat else (qpow q (-n).toNat)⁻¹
theorem qpow_dq (m e : Int) : ∀ n : Nat, qpow (dq m e) n = dq (m ^ n) (e * (n : Int))
  | 0 => by
    rw [qpow, Int.pow_zero, show e * ((0 : Nat) : Int) = 0 from Int.mul_zero e, dq_int]; rfl
  | n + 1 => by
    rw [qpow, qpow_dq m e n, ← dq_mul, ← Int.pow_succ, show e * ((n + 1 : Nat) : Int) = e * (n : Int) + e from by rw [Int.natCast_add, Int.mul_add]; simp]
theorem r01 : (0 : Rat) ≤ 1 := by decide
theorem pw_nat (q : Rat) (n : Nat) : pw q (n : Int) = qpow q n := by
  unfold pw
  rw [if_pos (by omega)]
  rfl
theorem pw_neg (q : Rat) {k : Nat} (h : 0 < k) : pw q (-(k : Int)) = (qpow q k)⁻¹ := by
  unfold pw
  rw [if_neg (by omega), Int.neg_neg]
  rfl
theorem pw_two (q : Rat) : pw q 2 = q * q := by
  show (1 * q) * q = q * q
  rw [Rat.one_mul]
/-- The least and the greatest power of the numbers from a to b; s: whether they have one sign. -/
def plo (s : Bool) (a b : Rat) (n : Int) : Rat := if s then rmin (pw a n) (pw b n) else rmin (rmin (pw a n) (pw 0 n)) (pw b n)
def phi (s : Bool) (a b : Rat) (n : Int) : Rat := if s then rmax (pw a n) (pw b n) else rmax (rmax (pw a n) (pw 0 n)) (pw b n)
theorem plo_or (s : Bool) (a b : Rat) (n : Int) : ∃ y, (y = a ∨ y = b ∨ (y = 0 ∧ s = false)) ∧ plo s a b n = pw y n := by
  unfold plo
  cases s
  · rw [if_neg (by decide)]
    rcases rmin_or (rmin (pw a n) (pw 0 n)) (pw b n) with h | h <;> rw [h]
    · rcases rmin_or (pw a n) (pw 0 n) with h | h <;> rw [h]
      · exact ⟨a, Or.inl rfl, rfl⟩
      · exact ⟨0, Or.inr (Or.inr ⟨rfl, rfl⟩), rfl⟩
    · exact ⟨b, Or.inr (Or.inl rfl), rfl⟩
  · rw [if_pos rfl]
    rcases rmin_or (pw a n) (pw b n) with h | h <;> rw [h]
    · exact ⟨a, Or.inl rfl, rfl⟩
    · exact ⟨b, Or.inr (Or.inl rfl), rfl⟩
theorem phi_or (s : Bool) (a b : Rat) (n : Int) : ∃ y, (y = a ∨ y = b ∨ (y = 0 ∧ s = false)) ∧ phi s a b n = pw y n := by
  unfold phi
  cases s
  · rw [if_neg (by decide)]
    rcases rmax_or (rmax (pw a n) (pw 0 n)) (pw b n) with h | h <;> rw [h]
    · rcases rmax_or (pw a n) (pw 0 n) with h | h <;> rw [h]
      · exact ⟨a, Or.inl rfl, rfl⟩
      · exact ⟨0, Or.inr (Or.inr ⟨rfl, rfl⟩), rfl⟩
    · exact ⟨b, Or.inr (Or.inl rfl), rfl⟩
  · rw [if_pos rfl]
    rcases rmax_or (pw a n) (pw b n) with h | h <;> rw [h]
    · exact ⟨a, Or.inl rfl, rfl⟩
    · exact ⟨b, Or.inr (Or.inl rfl), rfl⟩
theorem plo_le (s : Bool) (a b : Rat) (n : Int) : plo s a b n ≤ pw a n ∧ plo s a b n ≤ pw b n ∧ (s = false → plo s a b n ≤ pw 0 n) := by
  unfold plo
  cases s
  · rw [if_neg (by decide)]
    exact ⟨Rat.le_trans (rmin_l _ _) (rmin_l _ _), rmin_r _ _, fun _ => Rat.le_trans (rmin_l _ _) (rmin_r _ _)⟩
  · rw [if_pos rfl]
    exact ⟨rmin_l _ _, rmin_r _ _, fun h => absurd h (by decide)⟩
theorem le_phi (s : Bool) (a b : Rat) (n : Int) : pw a n ≤ phi s a b n ∧ pw b n ≤ phi s a b n ∧ (s = false → pw 0 n ≤ phi s a b n) := by
  unfold phi
  cases s
  · rw [if_neg (by decide)]
    exact ⟨Rat.le_trans (rmax_l _ _) (rmax_l _ _), rmax_r _ _, fun _ => Rat.le_trans (rmax_r _ _) (rmax_l _ _)⟩
  · rw [if_pos rfl]
    exact ⟨rmax_l _ _, rmax_r _ _, fun h => absurd h (by decide)⟩
theorem plo_phi (s : Bool) (a b : Rat) (n : Int) : plo s a b n ≤ phi s a b n := Rat.le_trans (plo_le s a b n).1 (le_phi s a b n).1
theorem sq_lt {x y : Rat} (h0 : 0 ≤ x) (h : x < y) : x * x < y * y := by
  have hy := rlt_le h0 h
  refine rlt_le (mul_nn (Rat.le_of_lt h) h0) ?_
  exact Rat.mul_lt_mul_of_pos_left h hy
theorem le_sq {x y : Rat} (h0 : 0 ≤ y) (h : x * x ≤ y * y) : x ≤ y := by
  rw [← Rat.not_lt]
  exact fun h1 => Rat.not_le.2 (sq_lt h0 h1) h
theorem cut_nn {q : Rat} (h : 0 ≤ q) (p : Int) : 0 ≤ cutQ q p := by
  unfold cutQ
  rw [Rat.le_floor_iff]
  exact Rat.mul_nonneg h (Rat.le_of_lt (dq_pos p))
theorem dq_nn {m : Int} (e : Int) (h : 0 ≤ m) : 0 ≤ dq m e := by
  have := (dq_le_iff 0 m e).2 h
  rwa [dq_zero] at this
/-- The floor of the root of q on the grid of k. -/
def sqR (q : Rat) (k : Int) : Int := (rt 2 (cutQ q (2 * k)).natAbs : Int)
theorem sqR_nn (q : Rat) (k : Int) : 0 ≤ sqR q k := Int.natCast_nonneg _
theorem sqR_le {q : Rat} (h : 0 ≤ q) (k : Int) : sqR q k * sqR q k ≤ cutQ q (2 * k) := by
  have h0 := cut_nn h (2 * k)
  have h1 := rt_le (cutQ q (2 * k)).natAbs (k := 2) (by omega)
  unfold sqR
  rw [Nat.pow_two] at h1
  have h2 := Int.ofNat_le.2 h1
  rw [Int.natAbs_of_nonneg h0, Int.natCast_mul] at h2
  exact h2
theorem sqR_lt {q : Rat} (h : 0 ≤ q) (k : Int) : cutQ q (2 * k) + 1 ≤ (sqR q k + 1) * (sqR q k + 1) := by
  have h0 := cut_nn h (2 * k)
  have h1 := rt_lt (cutQ q (2 * k)).natAbs (k := 2) (by omega)
  unfold sqR
  rw [Nat.pow_two] at h1
  have h2 := Int.ofNat_lt.2 h1
  rw [Int.natAbs_of_nonneg h0, Int.natCast_mul, Int.natCast_add] at h2
  exact h2
theorem two_k (k : Int) : -k + -k = -(2 * k) := by omega
theorem sq_lo {q : Rat} (h : 0 ≤ q) (k : Int) : dq (sqR q k) (-k) * dq (sqR q k) (-k) ≤ q := by
  rw [← dq_mul, two_k]
  exact Rat.le_trans ((dq_le_iff _ _ _).2 (sqR_le h k)) (cut_lo q (2 * k))
theorem sq_hi {q : Rat} (h : 0 ≤ q) (k : Int) : q < dq (sqR q k + 1) (-k) * dq (sqR q k + 1) (-k) := by
  rw [← dq_mul, two_k]
  refine rle_lt ?_ ((dq_le_iff _ _ _).2 (sqR_lt h k))
  rw [dq_succ]
  exact cut_hi q (2 * k)
/-- The ceiling of the root. -/
def sqU (q : Rat) (k : Int) : Int := if dq (sqR q k) (-k) * dq (sqR q k) (-k) = q then sqR q k else sqR q k + 1
theorem su_hi {q : Rat} (h : 0 ≤ q) (k : Int) : q ≤ dq (sqU q k) (-k) * dq (sqU q k) (-k) := by
  unfold sqU
  split
  · rename_i h1
    rw [h1]; exact Rat.le_refl
  · exact Rat.le_of_lt (sq_hi h k)
theorem su_nn (q : Rat) (k : Int) : 0 ≤ sqU q k := by
  have := sqR_nn q k
  unfold sqU
  split <;> omega
theorem su_le (q : Rat) (k : Int) : sqU q k ≤ sqR q k + 1 := by
  unfold sqU
  split <;> omega
theorem sq_order {q q' : Rat} (h0 : 0 ≤ q) (h : q ≤ q') (k : Int) : dq (sqR q k) (-k) ≤ dq (sqU q' k) (-k) :=
  le_sq (dq_nn _ (su_nn q' k)) (Rat.le_trans (sq_lo h0 k) (Rat.le_trans h (su_hi (Rat.le_trans h0 h) k)))
theorem dq_shl (j : Nat) (m e : Int) : dq (m * 2 ^ j) e = dq m (e + (j : Int)) := dq_eq (F := e) (by rw [show e - e = 0 by omega, show (e + (j : Int) - e).toNat = j by omega]; simp) (by omega) (by omega)
theorem dq_lt_iff (C D F : Int) : dq C F < dq D F ↔ C < D := by
  rw [← Rat.not_le, dq_le_iff]
  omega
theorem dq1_mono {a b : Int} (h : a ≤ b) : dq 1 a ≤ dq 1 b := by
  obtain ⟨j, rfl⟩ : ∃ j : Nat, b = a + (j : Int) := ⟨(b - a).toNat, by omega⟩
  rw [← dq_shl, dq_le_iff]
  have := pow2_pos j
  omega
theorem dq1_lt {a b : Int} (h : a < b) : dq 1 a < dq 1 b := by
  refine rle_lt ?_ (dq1_mono (show a + 1 ≤ b from h))
  rw [show a + 1 = a + ((1 : Nat) : Int) from rfl, ← dq_shl, dq_lt_iff]
  decide
theorem dq_shl1 (j : Nat) (e : Int) : dq ((2 ^ j : Nat) : Int) e = dq 1 (e + (j : Int)) := by
  rw [← dq_shl, Int.one_mul, cast2]
theorem dq1_mul (a b : Int) : dq 1 a * dq 1 b = dq 1 (a + b) := by rw [← dq_mul, Int.one_mul]
/-- The absolute value of a dyadic, by its highest digit. -/
theorem top_iff {m e K : Int} (hK : 0 ≤ K) : topZ m e ≤ K ↔ -(dq 1 K) < dq m e ∧ dq m e < dq 1 K := by
  unfold topZ
  by_cases h0 : m = 0
  · subst h0
    rw [if_pos rfl, dq_zero]
    have hp := dq_pos K
    refine ⟨fun _ => ⟨?_, hp⟩, fun _ => hK⟩
    have := Rat.neg_lt_neg hp
    rwa [Rat.neg_zero] at this
  · rw [if_neg h0]
    have hp : 0 < m.natAbs := by omega
    have hb := blen_pos hp
    have lo := two_pow_blen_le hp
    have hi := lt_two_pow_blen m.natAbs
    have e1 : dq ((2 ^ (blen m.natAbs - 1) : Nat) : Int) e ≤ dq (m.natAbs : Int) e := (dq_le_iff _ _ _).2 (by omega)
    have e2 : dq (m.natAbs : Int) e < dq ((2 ^ blen m.natAbs : Nat) : Int) e := (dq_lt_iff _ _ _).2 (by omega)
    rw [dq_shl1] at e1 e2
    have e3 : 0 ≤ dq (m.natAbs : Int) e := dq_nn e (by omega)
    have key : (blen m.natAbs : Int) + e ≤ K ↔ dq (m.natAbs : Int) e < dq 1 K := by
      constructor
      · intro h
        exact rle_lt e2 (dq1_mono (by omega))
      · intro h
        by_cases hc : (blen m.natAbs : Int) + e ≤ K
        · exact hc
        · have := dq1_mono (a := K) (b := e + ((blen m.natAbs - 1 : Nat) : Int)) (by omega)
          exact absurd (Rat.le_trans this e1) (Rat.not_le.2 h)
    rw [key]
    have hn : -(dq 1 K) < 0 := by
      have := Rat.neg_lt_neg (dq_pos K)
      rwa [Rat.neg_zero] at this
    rcases Int.lt_or_le m 0 with hm | hm
    · rw [show m = -(m.natAbs : Int) from by omega, dq_neg, show (-(m.natAbs : Int)).natAbs = m.natAbs from by omega]
      constructor
      · intro h
        refine ⟨Rat.neg_lt_neg h, rlt_le ?_ (dq_pos K)⟩
        have := Rat.neg_le_neg e3
        rwa [Rat.neg_zero] at this
      · rintro ⟨h, _⟩
        have := Rat.neg_lt_neg h
        rwa [Rat.neg_neg, Rat.neg_neg] at this
    · rw [show ((m.natAbs : Int)) = m from by omega] at e3 ⊢
      exact ⟨fun h => ⟨rle_lt hn e3, h⟩, fun h => h.2⟩
theorem on_mk {C k : Int} (hr : mkR C (-k) = 0) (hk : 0 ≤ k ∧ k ≤ 4096) : onB (mkM C (-k)) (mkE C (-k)) 8192 = true := by
  unfold onB
  rw [show permB 8192 = true from by decide, Bool.true_and]
  by_cases h0 : C = 0
  · have h1 : mkM C (-k) = 0 := by subst h0; unfold mkM; rw [if_pos hr, oddM_zero]
    rw [h1, decide_eq_true rfl, Bool.true_or]
  · have h2 : mkE C (-k) = oddE C (-k) := by unfold mkE; rw [if_neg h0, if_pos hr]
    rw [h2]
    unfold oddE
    rw [decide_eq_true (show -8192 ≤ -k + (tz C.natAbs : Int) by omega), Bool.or_true]
theorem small_iff {m e n f : Int} (h1 : onB m e 8192 = true) (h2 : onB n f 8192 = true) (hle : dq m e ≤ dq n f) : smallB m e n f = true ↔ topZ m e ≤ 2048 ∧ topZ n f ≤ 2048 := by
  unfold smallB
  rw [h1, h2, decide_eq_true ((dcm_le m e n f).2 hle)]
  simp
/-- An enclosure of what lies between the ends of a small one is small; two small ones around the ends make a small one. -/
theorem enB_iff {lo hi : Rat} {k : Int} (hk : workB k = true) (h1 : enF lo k) (h2 : upF hi k) (hle : lo ≤ hi) : enB lo hi k = true ↔ topZ (enM lo k) (enE lo k) ≤ 2048 ∧ topZ (upM hi k) (upE hi k) ≤ 2048 := by
  obtain ⟨_, hk0⟩ := work_perm hk
  unfold enB
  exact small_iff (on_mk h1 hk0) (on_mk h2 hk0) (Rat.le_trans (Rat.le_trans (en_lo h1) hle) (up_hi h2))
theorem enB_one {lo q hi : Rat} {k : Int} (hk : workB k = true) (h1 : enF lo k) (h2 : upF hi k) (h3 : enF q k) (h4 : upF q k) (a : lo ≤ q) (b : q ≤ hi) (h : enB lo hi k = true) : enB q q k = true := by
  rw [enB_iff hk h1 h2 (Rat.le_trans a b), top_iff (by omega), top_iff (by omega)] at h
  rw [enB_iff hk h3 h4 Rat.le_refl, top_iff (by omega), top_iff (by omega)]
  have x1 := en_mono (Int.le_refl k) a h1 h3
  have x2 := up_mono (Int.le_refl k) b h2 h4
  have x3 := Rat.le_trans (en_lo h3) (up_hi h4)
  exact ⟨⟨rle_lt h.1.1 x1, rlt_le (Rat.le_trans x3 x2) h.2.2⟩, rle_lt h.1.1 (Rat.le_trans x1 x3), rlt_le x2 h.2.2⟩
theorem enB_two {lo hi : Rat} {k : Int} (hk : workB k = true) (h1 : enF lo k) (h2 : upF hi k) (h3 : upF lo k) (h4 : enF hi k) (hle : lo ≤ hi) (a : enB lo lo k = true) (b : enB hi hi k = true) : enB lo hi k = true := by
  rw [enB_iff hk h1 h3 Rat.le_refl] at a
  rw [enB_iff hk h4 h2 Rat.le_refl] at b
  exact (enB_iff hk h1 h2 hle).2 ⟨a.1, b.2⟩
theorem en_dv {q : Rat} {k : Int} (h : enF q k) : Dv (enM q k) (enE q k) := mk_ok h
theorem up_dv {q : Rat} {k : Int} (h : upF q k) : Dv (upM q k) (upE q k) := mk_ok h
/-- The lesser one of two floors is the floor of the lesser one; likewise the greater one of two ceilings. -/
theorem lst_en {a b : Rat} {k : Int} (h1 : enF a k) (h2 : enF b k) : lstD (enM a k) (enE a k) (enM b k) (enE b k) = (enM (rmin a b) k, enE (rmin a b) k) := by
  unfold rmin lstD
  by_cases hab : a ≤ b
  · rw [if_pos hab, if_pos ((dcm_le _ _ _ _).2 (en_mono (Int.le_refl k) hab h1 h2))]
  · rw [if_neg hab]
    split
    · rename_i h
      have x1 := (dcm_le _ _ _ _).1 h
      have x2 := en_mono (Int.le_refl k) ((Rat.le_total (a := a) (b := b)).resolve_left hab) h2 h1
      obtain ⟨e1, e2⟩ := dv_uniq (en_dv h1) (en_dv h2) (Rat.le_antisymm x1 x2)
      rw [e1, e2]
    · rfl
theorem gst_up {a b : Rat} {k : Int} (h1 : upF a k) (h2 : upF b k) : gstD (upM a k) (upE a k) (upM b k) (upE b k) = (upM (rmax a b) k, upE (rmax a b) k) := by
  unfold rmax gstD
  by_cases hab : a ≤ b
  · rw [if_pos hab]
    have x2 := up_mono (Int.le_refl k) hab h2 h1
    split
    · rename_i h
      have x1 := (dcm_ge _ _ _ _).1 h
      obtain ⟨e1, e2⟩ := dv_uniq (up_dv h1) (up_dv h2) (Rat.le_antisymm x2 x1)
      rw [e1, e2]
    · rfl
  · rw [if_neg hab, if_pos ((dcm_ge _ _ _ _).2 (up_mono (Int.le_refl k) ((Rat.le_total (a := a) (b := b)).resolve_left hab) h1 h2))]
/-- A number of moderate size, and how long its cuts are. -/
def Bd (q : Rat) (j : Nat) : Prop := -(dq 1 (j : Int)) ≤ q ∧ q ≤ dq 1 (j : Int)
theorem bd_nn {q : Rat} {j : Nat} (h0 : 0 ≤ q) (h : q ≤ dq 1 (j : Int)) : Bd q j := by
  refine ⟨Rat.le_trans ?_ h0, h⟩
  have := Rat.neg_le_neg (Rat.le_of_lt (dq_pos (j : Int)))
  rwa [Rat.neg_zero] at this
theorem dbl1 (j : Int) : dq 1 j + dq 1 j = dq 1 (j + 1) := by
  have h := dq_dbl 1 (j + 1)
  rwa [show j + 1 + -1 = j by omega] at h
theorem dq1_add {j : Int} (h : 0 ≤ j) : dq 1 j + dq 1 0 ≤ dq 1 (j + 1) := by
  rw [← dbl1 j]
  exact (Rat.add_le_add_left (c := dq 1 j)).2 (dq1_mono h)
theorem bd_top {m e : Int} {j : Nat} (h : Bd (dq m e) j) (hj : j ≤ 2047) : topZ m e ≤ 2048 := by
  rw [top_iff (by omega)]
  have h1 := dq1_lt (show (j : Int) < 2048 by omega)
  exact ⟨rle_lt (Rat.neg_lt_neg h1) h.1, rlt_le h.2 h1⟩
theorem mkE_in (C : Int) (k : Int) (hk : 0 ≤ k) : -k ≤ mkE C (-k) ∧ mkE C (-k) ≤ 32 * (zl C : Int) := by
  unfold mkE
  by_cases h0 : C = 0
  · rw [if_pos h0]; omega
  · rw [if_neg h0]
    split
    · unfold oddE
      have ht := tz_le8 C.natAbs (by omega)
      have e1 : zl C = len C.natAbs := rfl
      omega
    · omega
/-- The floor and the ceiling of the root of a number of moderate size. -/
theorem bd_sqR {q : Rat} {j : Nat} (h0 : 0 ≤ q) (h : q ≤ dq 1 ((2 * j : Nat) : Int)) (k : Int) : Bd (dq (sqR q k) (-k)) j := by
  refine bd_nn (dq_nn _ (sqR_nn q k)) (le_sq (Rat.le_of_lt (dq_pos _)) ?_)
  rw [dq1_mul, show (j : Int) + (j : Int) = ((2 * j : Nat) : Int) by omega]
  exact Rat.le_trans (sq_lo h0 k) h
theorem bd_sqU {q : Rat} {j : Nat} (h0 : 0 ≤ q) (h : q ≤ dq 1 ((2 * j : Nat) : Int)) {k : Int} (hk : 0 ≤ k) : Bd (dq (sqU q k) (-k)) (j + 1) := by
  refine bd_nn (dq_nn _ (su_nn q k)) ?_
  have h1 := (bd_sqR h0 h k).2
  have h2 : dq (sqU q k) (-k) ≤ dq (sqR q k + 1) (-k) := (dq_le_iff _ _ _).2 (su_le q k)
  rw [dq_succ] at h2
  exact Rat.le_trans h2 (Rat.le_trans (add_mono h1 (dq1_mono (show -k ≤ 0 by omega))) (dq1_add (by omega)))

theorem znn_any (x : Nat) (v : Value) (w : World) (h : IsN w v x) (hl : len x ≤ 1000000) : Calls Tryz.prog 108 #[.bool false, v] w (RetZ w (x : Int)) := by
  obtain ⟨A, n, c, rfl, hs⟩ := h
  have hn : len x = n := by rw [← length_dig]; exact hs.len
  have := znat_any false _ A n c w hs (by omega)
  rwa [val_dig] at this
theorem isZ_n {w : World} {s : Value} {z : Int} (h : IsN w s z.natAbs) : IsZ w (.agg #[.bool (ng z), s]) z := ⟨s, rfl, h⟩
theorem isP_nn {w : World} {s t : Value} {a : Int} {d : Nat} (h : IsN w s a.natAbs) (h2 : IsN w t d) : IsP w (.agg #[.bool (ng a), s, t]) a d := ⟨s, t, rfl, h, h2⟩
theorem Lq.name {w0 w : World} {ns : List (Value × Nat)} {zs : List (Value × Int)} {qs : List (Value × Int × Nat)} {bs : List (Nat × TypeId × Array Value)} (h : Lq w0 w ns zs qs bs) : ∃ x, w = x ∧ Lq w0 x ns zs qs bs := ⟨w, rfl, h⟩
theorem mk_fits4 {m e : Int} (h : zl m ≤ 1000) (h1 : -60000 ≤ e) (h2 : e ≤ 33000) : mkR m e = 0 := by
  unfold mkR
  rw [if_neg (by omega)]
  by_cases h0 : m = 0
  · rw [if_pos h0]
  · rw [if_neg h0]
    have ht := tz_le8 m.natAbs (by omega)
    have e1 : zl m = len m.natAbs := rfl
    have hb : blen (oddM m).natAbs ≤ 65536 := by
      have := blen_le_len (oddM m).natAbs
      have h3 := zl_odd m
      have e2 : zl (oddM m) = len (oddM m).natAbs := rfl
      omega
    have ho : bitB (oddM m).natAbs 0 = true := by
      obtain ⟨k, hk⟩ := tz_form (x := m.natAbs) (by omega)
      have hd : m.natAbs / 2 ^ tz m.natAbs = 2 * k + 1 := by
        have := Nat.mul_div_cancel_left (2 * k + 1) (Nat.pow_pos (n := tz m.natAbs) (show 0 < 2 by omega))
        rwa [← hk] at this
      unfold bitB
      rw [oddM_abs, hd, Nat.pow_zero, Nat.div_one]
      exact decide_eq_true (by omega)
    have hf : fits8 (oddM m) (oddE m e) = true := by
      unfold fits8 oddE
      rw [decide_eq_true hb, decide_eq_true (by omega), decide_eq_true (by omega), ho]
      rfl
    rw [hf]
    rfl
theorem len_half {r a K : Nat} (h : r * r ≤ a) (ha : len a ≤ 2 * K) : len r ≤ K := by
  refine len_le ?_
  have h1 := len_le_iff.1 ha
  rw [Nat.mul_comm, Nat.pow_mul, Nat.pow_two] at h1
  rcases Nat.lt_or_ge r (W32 ^ K) with h2 | h2
  · exact h2
  · have := Nat.mul_le_mul h2 h2
    omega
/-- How long the parts of a root are. -/
theorem sq_size {m e k : Int} (lm : zl m ≤ 400) (he : -10000 ≤ e ∧ e ≤ 10000) (hm : 0 ≤ m) (hk : workB k = true) : 0 ≤ cutQ (dq m e) (2 * k) ∧ zl (cutQ (dq m e) (2 * k)) ≤ 970 ∧ zl (sqR (dq m e) k) ≤ 485 ∧ zl (sqU (dq m e) k) ≤ 486 ∧ mkR (cutQ (dq m e) (2 * k)) (-(2 * k)) = 0 ∧ mkR (sqR (dq m e) k) (-k) = 0 ∧ mkR (sqU (dq m e) k) (-k) = 0 := by
  obtain ⟨_, h0, h1⟩ := work_perm hk
  have c0 := cut_nn (dq_nn e hm) (2 * k)
  have c1 := zl_cutD m e (2 * k)
  have c2 : zl (cutQ (dq m e) (2 * k)) ≤ 970 := by omega
  have r0 := sqR_nn (dq m e) k
  have r1 : zl (sqR (dq m e) k) ≤ 485 := by
    have h := sqR_le (dq_nn e hm) k
    have h2 : (sqR (dq m e) k).natAbs * (sqR (dq m e) k).natAbs ≤ (cutQ (dq m e) (2 * k)).natAbs := by
      rw [← Int.natAbs_mul]
      have := Int.mul_nonneg r0 r0
      omega
    exact len_half h2 (by exact Nat.le_trans c2 (by omega))
  have r2 : zl (sqU (dq m e) k) ≤ 486 := by
    have h := su_le (dq m e) k
    have h2 := su_nn (dq m e) k
    have h3 := zl_add (sqR (dq m e) k) 1
    have h4 : zl 1 ≤ 1 := len_le1 (by decide)
    have h5 : zl (sqU (dq m e) k) ≤ zl (sqR (dq m e) k + 1) := len_mono (by omega)
    omega
  exact ⟨c0, c2, r1, r2, mk_fits2 (by omega) (by omega) (by omega), mk_fits2 (by omega) (by omega) (by omega), mk_fits2 (by omega) (by omega) (by omega)⟩
theorem mk_shl {C j : Int} (hj : 0 ≤ j) (h : mkR C (-j) = 0) : ∃ t : Nat, mkE C (-j) + j = (t : Int) ∧ mkM C (-j) * 2 ^ t = C ∧ t ≤ j.toNat + 32 * zl C := by
  unfold mkE mkM
  rw [if_pos h, if_pos h]
  by_cases h0 : C = 0
  · rw [if_pos h0]
    subst h0
    refine ⟨j.toNat, by omega, by rw [oddM_zero, Int.zero_mul], by omega⟩
  · rw [if_neg h0]
    have ht := tz_le8 C.natAbs (by omega)
    have e1 : zl C = len C.natAbs := rfl
    exact ⟨tz C.natAbs, by unfold oddE; omega, odd_form C, by omega⟩
theorem mk_next {r k : Int} (hk : 0 ≤ k) (h : mkR r (-k) = 0) : addS (mkM r (-k)) (mkE r (-k)) 1 (-k) = r + 1 ∧ min (mkE r (-k)) (-k) = -k := by
  obtain ⟨t, h1, h2, _⟩ := mk_shl hk h
  have e1 : min (mkE r (-k)) (-k) = -k := by omega
  refine ⟨?_, e1⟩
  unfold addS
  rw [e1, show (mkE r (-k) - -k).toNat = t from by omega, h2, show (-k - -k).toNat = 0 from by omega]
  rfl
theorem mk_unit {k : Int} (h0 : 0 ≤ k) (h1 : k ≤ 4096) : mkM 1 (-k) = 1 ∧ mkE 1 (-k) = -k ∧ mkR 1 (-k) = 0 := by
  have hz : zl 1 ≤ 1 := len_le1 (by decide)
  have h := mk_fits4 (m := 1) (e := -k) (by omega) (by omega) (by omega)
  refine ⟨?_, ?_, h⟩
  · unfold mkM
    rw [if_pos h]
    have := odd_shl (m := 1) (by decide) 0
    simpa using this
  · unfold mkE
    rw [if_neg (by decide), if_pos h]
    unfold oddE
    rw [show tz (1 : Int).natAbs = 0 from tz_two 0]
    omega
theorem dcm_zero_iff (m e n f : Int) : dcm m e n f = 0 ↔ dq m e = dq n f := by
  have h1 := dcm_le m e n f
  have h2 := dcm_ge m e n f
  constructor
  · intro h
    exact Rat.le_antisymm (h1.1 (by omega)) (h2.1 (by omega))
  · intro h
    have a := h1.2 (by rw [h]; exact Rat.le_refl)
    have b := h2.2 (by rw [h]; exact Rat.le_refl)
    omega
/-- The square of the floor, as the program takes it. -/
theorem sq_square {q : Rat} {k : Int} (hk : workB k = true) (h : mkR (sqR q k) (-k) = 0) (hz : zl (sqR q k) ≤ 485) : zl (mkM (sqR q k) (-k)) ≤ 485 ∧ (-4096 ≤ mkE (sqR q k) (-k) ∧ mkE (sqR q k) (-k) ≤ 15520) ∧ mkR (mkM (sqR q k) (-k) * mkM (sqR q k) (-k)) (mkE (sqR q k) (-k) + mkE (sqR q k) (-k)) = 0 ∧ zl (mkM (mkM (sqR q k) (-k) * mkM (sqR q k) (-k)) (mkE (sqR q k) (-k) + mkE (sqR q k) (-k))) ≤ 970 ∧ (-70000 ≤ mkE (mkM (sqR q k) (-k) * mkM (sqR q k) (-k)) (mkE (sqR q k) (-k) + mkE (sqR q k) (-k)) ∧ mkE (mkM (sqR q k) (-k) * mkM (sqR q k) (-k)) (mkE (sqR q k) (-k) + mkE (sqR q k) (-k)) ≤ 70000) ∧ dq (mkM (mkM (sqR q k) (-k) * mkM (sqR q k) (-k)) (mkE (sqR q k) (-k) + mkE (sqR q k) (-k))) (mkE (mkM (sqR q k) (-k) * mkM (sqR q k) (-k)) (mkE (sqR q k) (-k) + mkE (sqR q k) (-k))) = dq (sqR q k) (-k) * dq (sqR q k) (-k) := by
  obtain ⟨_, h0, h1⟩ := work_perm hk
  have a1 := zl_mk (sqR q k) (-k)
  have a2 := mkE_in (sqR q k) k h0
  have a3 := dq_mk h
  generalize mkM (sqR q k) (-k) = M at *
  generalize mkE (sqR q k) (-k) = E at *
  have b1 := zl_mul M M
  have b2 := mk_fits4 (m := M * M) (e := E + E) (by omega) (by omega) (by omega)
  have b3 := zl_mk (M * M) (E + E)
  have b4 := mkE_le (m := M * M) (e := E + E) (K := 31040) (by omega) (by omega)
  exact ⟨by omega, by omega, b2, by omega, by omega, by rw [dq_mk b2, dq_mul, a3]⟩
/-- What SqrtFloor, SqrtCeil, Sqrt return. -/
def RetSf (w : World) (m e k : Int) : Ending → World → Prop := if workB k then (if m < 0 then RetDE w 0 0 4 else RetDE w (mkM (sqR (dq m e) k) (-k)) (mkE (sqR (dq m e) k) (-k)) 0) else RetDE w 0 0 1
def RetSc (w : World) (m e k : Int) : Ending → World → Prop := if workB k then (if m < 0 then RetDE w 0 0 4 else RetDE w (mkM (sqU (dq m e) k) (-k)) (mkE (sqU (dq m e) k) (-k)) 0) else RetDE w 0 0 1
def smS (m e n f k : Int) : Bool := smallB (mkM (sqR (dq m e) k) (-k)) (mkE (sqR (dq m e) k) (-k)) (mkM (sqU (dq n f) k) (-k)) (mkE (sqU (dq n f) k) (-k))
def RetSr (w : World) (m e n f k : Int) : Ending → World → Prop := if workB k then (if n < 0 then RetIE w 0 0 0 0 4 else if m < 0 then RetIE w 0 0 0 0 5 else if smS m e n f k then RetIE w (mkM (sqR (dq m e) k) (-k)) (mkE (sqR (dq m e) k) (-k)) (mkM (sqU (dq n f) k) (-k)) (mkE (sqU (dq n f) k) (-k)) 0 else RetIE w 0 0 0 0 3) else RetIE w 0 0 0 0 1
theorem cmp_neg0 (m : Int) : cmpI m 0 < 0 ↔ m < 0 := by
  unfold cmpI
  (repeat' split) <;> omega
theorem RetDE.z {w w' : World} (h : Below w.heap.size w w') (er : Int) : RetDE w 0 0 er (.returned (.tuple #[.agg #[.bool false, .slice none 0 0, .int .i64 0], .int .i64 er])) w' := ⟨_, rfl, isD_zero _, h⟩
theorem RetIE.z {w w' : World} (h : Below w.heap.size w w') (er : Int) : RetIE w 0 0 0 0 er (.returned (.tuple #[.agg #[.bool false, .slice none 0 0, .int .i64 0, .bool false, .slice none 0 0, .int .i64 0], .int .i64 er])) w' := ⟨_, rfl, isI_zero _, h⟩


set_option maxHeartbeats 1000000 in
theorem rdperm_any (p : Int) (w : World) :
    Calls Tryz.prog 53 #[.int .i64 p] w (fun e w' => e = .returned (.bool (workB p)) ∧ w = w') := by
  unfold workB
  by_cases q1 : 0 ≤ p
  · have b1 : decide (0 ≤ p) = true := decide_eq_true q1
    rw [b1, Bool.true_and]
    go_enter Tryz.func53, Tryz.ntmps53
    go_wp2_with fail
    go_ret
    exact ⟨rfl, rfl⟩
  · have b1 : decide (0 ≤ p) = false := decide_eq_false q1
    rw [b1, Bool.false_and]
    go_enter Tryz.func53, Tryz.ntmps53
    go_wp2_with fail
    go_ret
    exact ⟨rfl, rfl⟩
def powB (n : Int) : Bool := decide (-64 ≤ n) && decide (n ≤ 64)
set_option maxHeartbeats 1000000 in
theorem rdpow_any (p : Int) (w : World) :
    Calls Tryz.prog 59 #[.int .i64 p] w (fun e w' => e = .returned (.bool (powB p)) ∧ w = w') := by
  unfold powB
  by_cases q1 : -64 ≤ p
  · have b1 : decide (-64 ≤ p) = true := decide_eq_true q1
    rw [b1, Bool.true_and]
    go_enter Tryz.func59, Tryz.ntmps59
    go_wp2_with fail
    go_ret
    exact ⟨rfl, rfl⟩
  · have b1 : decide (-64 ≤ p) = false := decide_eq_false q1
    rw [b1, Bool.false_and]
    go_enter Tryz.func59, Tryz.ntmps59
    go_wp2_with fail
    go_ret
    exact ⟨rfl, rfl⟩
set_option maxHeartbeats 8000000 in
theorem dsqrtf_any (m e k : Int) (vx : Value) (w : World) (hx : IsD w vx m e) (lm : zl m ≤ 400) (he : -10000 ≤ e ∧ e ≤ 10000) (hv : Dv m e) (hk1 : -9223372036854775808 ≤ k) (hk2 : k ≤ 9223372036854775807) (hT : Tab w) :
    Calls Tryz.prog 55 #[vx, .int .i64 k] w (RetSf w m e k) := by
  obtain ⟨A, c, rfl, _, hn1⟩ := hx.form
  have L0 := (Lq.mk0 w).n hn1
  have HW0 := fun W => rdperm_any k W
  unfold RetSf
  cases hw : workB k
  · rw [if_neg (by decide)]
    rw [hw] at HW0
    have HW := Lib.hid HW0
    clear HW0 hx hn1 hw lm he hT
    go_enter Tryz.func55, Tryz.ntmps55
    go_wp2_with fail
    have L := ((L0.varD (w.heap.size) (by simp) (ng m) A (zl m) c e).varD (w.heap.size + 1) (by simp) false none 0 0 0)
    have c00 := L.b0.c30
    have f00 := L.b0.fr 0
    have c01 := L.b0.c31
    have f01 := L.b0.fr 1
    have c02 := L.b0.c32
    have f02 := L.b0.fr 2
    have c10 := L.tl.b0.c30
    have c11 := L.tl.b0.c31
    have c12 := L.tl.b0.c32
    (try go_wp2_with fail)
    refine (HW.out _).mono ?_
    rintro e9 w' ⟨rfl, rfl⟩
    (try go_wp2_with fail)
    exact bodyPost_ret (v := .tuple #[.agg #[.bool false, .slice none 0 0, .int .i64 0], .int .i64 1]) (by simp [results, Tryz.results55, go_sem, c00, c01, c02]) rfl (RetDE.z L.below _)
  · rw [if_pos rfl]
    rw [hw] at HW0
    have HW := Lib.hid HW0
    have g1 := fun v W h => dsign_any m e v W h (by omega)
    have hc := cmp_neg0 m
    obtain ⟨x1, hx1⟩ : ∃ x, cmpI m 0 = x := ⟨_, rfl⟩
    rw [hx1] at g1 hc
    have H1 := Lib.hid g1
    clear HW0 g1 hx1
    by_cases hm : m < 0
    · rw [if_pos hm]
      have b1 : decide (x1 < 0) = true := decide_eq_true (hc.2 hm)
      clear hx hn1 hw lm he hT hc
      go_enter Tryz.func55, Tryz.ntmps55
      go_wp2_with fail
      have L := ((L0.varD (w.heap.size) (by simp) (ng m) A (zl m) c e).varD (w.heap.size + 1) (by simp) false none 0 0 0)
      have c00 := L.b0.c30
      have f00 := L.b0.fr 0
      have c01 := L.b0.c31
      have f01 := L.b0.fr 1
      have c02 := L.b0.c32
      have f02 := L.b0.fr 2
      have c10 := L.tl.b0.c30
      have c11 := L.tl.b0.c31
      have c12 := L.tl.b0.c32
      (try go_wp2_with fail)
      refine (HW.out _).mono ?_
      rintro e9 w' ⟨rfl, rfl⟩
      (try go_wp2_with fail)
      refine (H1.out _ _ (isD_n (m := m) (e := e) (s := .slice A (zl m) c) (L.getN (v := .slice A (zl m) c) (x := (m).natAbs) (by simp)))).mono ?_
      rintro e w1 ⟨rfl, be⟩
      clear c00 f00 c01 f01 c02 f02 c10 c11 c12
      replace L := L.step be
      clear be
      have c00 := L.b0.c30
      have f00 := L.b0.fr 0
      have c01 := L.b0.c31
      have f01 := L.b0.fr 1
      have c02 := L.b0.c32
      have f02 := L.b0.fr 2
      have c10 := L.tl.b0.c30
      have c11 := L.tl.b0.c31
      have c12 := L.tl.b0.c32
      (try go_wp2_with fail)
      have LP := L.putD (by omega) (by first | (simp; done) | (simp; omega)) (false) none (0) 0 (0)
      have k0 := LP.b0.c30
      have k1 := LP.b0.c31
      have k2 := LP.b0.c32
      unfold put3 at k0 k1 k2
      exact bodyPost_ret (v := .tuple #[.agg #[.bool (false), .slice none (0) 0, .int .i64 (0)], .int .i64 4]) (by simp [results, Tryz.results55, go_sem, k0, k1, k2]) rfl (RetDE.z LP.below _)
    · rw [if_neg hm]
      have b1 : decide (x1 < 0) = false := decide_eq_false (fun h => hm (hc.1 h))
      obtain ⟨s0, s1, s2, _, s4, s5, _⟩ := sq_size lm he (Int.not_lt.1 hm) hw
      obtain ⟨_, k0, k1⟩ := work_perm hw
      have p2 : permB (2 * k) = true := by unfold permB; rw [decide_eq_true (show -2048 ≤ 2 * k by omega), decide_eq_true (show 2 * k ≤ 8192 by omega)]; rfl
      have g2 := fun v W h (hW : Below w.heap.size w W) => gfloor_any m e (2 * k) v W h (by omega) (by omega) (by omega) (by omega) (hT.mono hW)
      rw [(g_yes p2 _).1, (g_yes p2 _).2.1, (g_yes p2 _).2.2, s4] at g2
      obtain ⟨t, t1, t2, t3⟩ := mk_shl (by omega) s4
      have z2 := zl_mk (cutQ (dq m e) (2 * k)) (-(2 * k))
      have g3 := fun v W h => zshl_any (mkM (cutQ (dq m e) (2 * k)) (-(2 * k))) v W h (by omega) t (by omega)
      rw [t2] at g3
      have g4 := fun v W h => sqrt_any (cutQ (dq m e) (2 * k)).natAbs v W h (show len (cutQ (dq m e) (2 * k)).natAbs ≤ 10000 from Nat.le_trans s1 (by omega))
      have g5 := fun v W h => znn_any (rt 2 (cutQ (dq m e) (2 * k)).natAbs) v W h (show len (rt 2 (cutQ (dq m e) (2 * k)).natAbs) ≤ 1000000 from Nat.le_trans s2 (by omega))
      have g6 := fun v W h (hW : Below w.heap.size w W) => dmake_any (sqR (dq m e) k) (-k) v W h (by omega) (hT.mono hW)
      rw [s5] at g6
      have e1 : (rt 2 (cutQ (dq m e) (2 * k)).natAbs : Int) = sqR (dq m e) k := rfl
      rw [e1] at g5
      have bE := mkE_in (cutQ (dq m e) (2 * k)) (2 * k) (by omega)
      obtain ⟨k2, hk2'⟩ : ∃ z, 2 * k = z := ⟨_, rfl⟩
      have w1 : IntKind.i64.wrap (2 * k) = k2 := by rw [IntKind.wrap_i64]; omega
      rw [hk2'] at g2 g3 g4 g5 t1 bE s1 z2
      obtain ⟨C, hC⟩ : ∃ z, cutQ (dq m e) k2 = z := ⟨_, rfl⟩
      rw [hC] at g2 g3 g4 g5 t1 bE s1 z2
      obtain ⟨M, hM⟩ : ∃ z, mkM C (-k2) = z := ⟨_, rfl⟩
      obtain ⟨E, hE⟩ : ∃ z, mkE C (-k2) = z := ⟨_, rfl⟩
      rw [hM] at g2 g3
      rw [hE] at g2 t1 bE
      have w2 : IntKind.i64.wrap (E + k2) = (t : Int) := by rw [IntKind.wrap_i64]; omega
      obtain ⟨j, hj⟩ : ∃ z, -k = z := ⟨_, rfl⟩
      have w3 : IntKind.i64.wrap (-k) = j := by rw [IntKind.wrap_i64]; omega
      rw [hj] at g6 ⊢
      obtain ⟨R, hR⟩ : ∃ z, sqR (dq m e) k = z := ⟨_, rfl⟩
      rw [hR] at g5 g6 ⊢
      obtain ⟨N, hN⟩ : ∃ z, mkM R j = z := ⟨_, rfl⟩
      obtain ⟨G, hG⟩ : ∃ z, mkE R j = z := ⟨_, rfl⟩
      rw [hN, hG] at g6 ⊢
      obtain ⟨rr, hrr⟩ : ∃ z, rt 2 C.natAbs = z := ⟨_, rfl⟩
      obtain ⟨rs, hrs⟩ : ∃ z, C.natAbs - rt 2 C.natAbs * rt 2 C.natAbs = z := ⟨_, rfl⟩
      rw [hrs, hrr] at g4
      rw [hrr] at g5
      have H2 := Lib.hid g2
      have H3 := Lib.hid g3
      have H4 := Lib.hid g4
      have H5 := Lib.hid g5
      have H6 := Lib.hid g6
      clear g2 g3 g4 g5 g6 e1 hC hM hE hR hN hG hrr hrs hj hk2' hx hn1 hw lm he hT hc s0 s1 s2 s4 s5 k0 k1 p2 t1 t2 t3 z2 bE hm
      go_enter Tryz.func55, Tryz.ntmps55
      go_wp2_with fail
      have L := ((L0.varD (w.heap.size) (by simp) (ng m) A (zl m) c e).varD (w.heap.size + 1) (by simp) false none 0 0 0)
      have c00 := L.b0.c30
      have f00 := L.b0.fr 0
      have c01 := L.b0.c31
      have f01 := L.b0.fr 1
      have c02 := L.b0.c32
      have f02 := L.b0.fr 2
      have c10 := L.tl.b0.c30
      have c11 := L.tl.b0.c31
      have c12 := L.tl.b0.c32
      (try go_wp2_with fail)
      refine (HW.out _).mono ?_
      rintro e9 w' ⟨rfl, rfl⟩
      (try go_wp2_with fail)
      refine (H1.out _ _ (isD_n (m := m) (e := e) (s := .slice A (zl m) c) (L.getN (v := .slice A (zl m) c) (x := (m).natAbs) (by simp)))).mono ?_
      rintro e w1 ⟨rfl, be⟩
      clear c00 f00 c01 f01 c02 f02 c10 c11 c12
      replace L := L.step be
      clear be
      have c00 := L.b0.c30
      have f00 := L.b0.fr 0
      have c01 := L.b0.c31
      have f01 := L.b0.fr 1
      have c02 := L.b0.c32
      have f02 := L.b0.fr 2
      have c10 := L.tl.b0.c30
      have c11 := L.tl.b0.c31
      have c12 := L.tl.b0.c32
      (try go_wp2_with fail)
      refine (H2.out _ _ (isD_n (m := m) (e := e) (s := .slice A (zl m) c) (L.getN (v := .slice A (zl m) c) (x := (m).natAbs) (by simp))) L.below).mono ?_
      rintro e w2 ⟨vv, rfl, id, be⟩
      clear c00 f00 c01 f01 c02 f02 c10 c11 c12
      obtain ⟨A8, c8, rfl, _, in9⟩ := id.form
      replace L := (L.step be).n in9
      clear be id in9
      have hlg8 := L.b0.lt
      replace L := L.varD w2.heap.size rfl (ng M) A8 (zl M) c8 E
      have cel00 := L.b0.c30
      have cel01 := L.b0.c31
      have cel02 := L.b0.c32
      go_wp2_with fail
      obtain ⟨g8, hg⟩ : ∃ g, w2.heap.size = g := ⟨_, rfl⟩
      rw [hg] at L hlg8 cel00 cel01 cel02 ⊢
      clear hg
      clear cel00 cel01 cel02
      refine (H3.out _ _ (isZ_n (z := M) (s := .slice A8 (zl M) c8) (L.getN (by simp)))).mono ?_
      rintro e w3 ⟨vv, rfl, iz, be⟩
      replace L := (L.step be).z iz
      obtain ⟨A7, c7, rfl, in9⟩ := iz.form
      replace L := L.n in9
      clear be iz in9
      have hlg7 := L.b0.lt
      replace L := L.varZ w3.heap.size rfl (ng C) A7 (zl C) c7
      have cel00 := L.b0.c20
      have cel01 := L.b0.c21
      go_wp2_with fail
      obtain ⟨g7, hg⟩ : ∃ g, w3.heap.size = g := ⟨_, rfl⟩
      rw [hg] at L hlg7 cel00 cel01 ⊢
      clear hg
      clear cel00 cel01
      refine (H4.out _ _ (L.getN (v := .slice A7 (zl C) c7) (x := C.natAbs) (by simp))).mono ?_
      rintro e w4 ⟨vq, vr, rfl, oq, or_, be⟩
      replace L := (L.step be).n (isN_of_own oq rfl)
      clear be oq or_
      (try go_wp2_with fail)
      refine (H5.out _ _ (L.getN (v := vq) (x := rr) (by simp))).mono ?_
      rintro e w5 ⟨vz, rfl, iz, be⟩
      replace L := (L.step be).z iz
      clear be iz
      (try go_wp2_with fail)
      refine (H6.out _ _ (L.getZ (by simp)) L.below).mono ?_
      rintro e w6 ⟨vd, rfl, id, be⟩
      obtain ⟨A9, c9, rfl, _, in9⟩ := id.form
      replace L := (L.step be).n in9
      clear be id in9
      replace L := L.pick [(w.heap.size + 1, 29, #[.bool false, .slice none 0 0, .int .i64 0])] (by simp)
      have c00 := L.b0.c30
      have f00 := L.b0.fr 0
      have c01 := L.b0.c31
      have f01 := L.b0.fr 1
      have c02 := L.b0.c32
      have f02 := L.b0.fr 2
      go_wp2_with fail
      have LP := L.putD (by omega) (by first | (simp; done) | (simp; omega)) (ng N) A9 (zl N) c9 (G)
      have k0 := LP.b0.c30
      have k1 := LP.b0.c31
      have k2 := LP.b0.c32
      unfold put3 at k0 k1 k2
      exact bodyPost_ret (v := .tuple #[.agg #[.bool (ng N), .slice A9 (zl N) c9, .int .i64 (G)], .int .i64 0]) (by simp [results, Tryz.results55, go_sem, k0, k1, k2]) rfl ⟨_, rfl, isD_n (LP.getN (by simp)), LP.below⟩
set_option maxHeartbeats 8000000 in
theorem dsqrtc_any (m e k : Int) (vx : Value) (w : World) (hx : IsD w vx m e) (lm : zl m ≤ 400) (he : -10000 ≤ e ∧ e ≤ 10000) (hv : Dv m e) (hk1 : -9223372036854775808 ≤ k) (hk2 : k ≤ 9223372036854775807) (hT : Tab w) :
    Calls Tryz.prog 56 #[vx, .int .i64 k] w (RetSc w m e k) := by
  obtain ⟨A, c, rfl, _, hn1⟩ := hx.form
  have L0 := (Lq.mk0 w).n hn1
  have g1 := fun v W h (hW : Below w.heap.size w W) => dsqrtf_any m e k v W h lm he hv hk1 hk2 (hT.mono hW)
  unfold RetSf at g1
  unfold RetSc
  cases hw : workB k
  · rw [if_neg (by decide)]
    simp only [hw, Bool.false_eq_true, if_false] at g1
    have H1 := Lib.hid g1
    clear g1 hx hn1 hw lm he hv hT
    go_enter Tryz.func56, Tryz.ntmps56
    go_wp2_with fail
    have L := ((L0.varD (w.heap.size) (by simp) (ng m) A (zl m) c e).varD (w.heap.size + 1) (by simp) false none 0 0 0)
    have c00 := L.b0.c30
    have f00 := L.b0.fr 0
    have c01 := L.b0.c31
    have f01 := L.b0.fr 1
    have c02 := L.b0.c32
    have f02 := L.b0.fr 2
    have c10 := L.tl.b0.c30
    have c11 := L.tl.b0.c31
    have c12 := L.tl.b0.c32
    (try go_wp2_with fail)
    refine (H1.out _ _ (isD_n (m := m) (e := e) (s := .slice A (zl m) c) (L.getN (v := .slice A (zl m) c) (x := (m).natAbs) (by simp))) L.below).mono ?_
    rintro e w1 ⟨vd, rfl, id, be⟩
    clear c00 f00 c01 f01 c02 f02 c10 c11 c12
    obtain ⟨A9, c9, rfl, _, in9⟩ := id.form
    replace L := (L.step be).n in9
    clear be id in9
    replace L := L.varD w1.heap.size rfl (ng 0) A9 (zl 0) c9 0
    have x0 := L.b0.c30
    have x1 := L.b0.c31
    have x2 := L.b0.c32
    have R := L.pick [(w.heap.size + 1, 29, #[.bool false, .slice none 0 0, .int .i64 0])] (by simp)
    have r0 := R.b0.c30
    have s0 := R.b0.fr 0
    have r1 := R.b0.c31
    have s1 := R.b0.fr 1
    have r2 := R.b0.c32
    have s2 := R.b0.fr 2
    go_wp2_with fail
    have LP := R.putD (by omega) (by first | (simp; done) | (simp; omega)) false none 0 0 0
    have k0 := LP.b0.c30
    have k1 := LP.b0.c31
    have k2 := LP.b0.c32
    unfold put3 at k0 k1 k2
    exact bodyPost_ret (v := .tuple #[.agg #[.bool false, .slice none 0 0, .int .i64 0], .int .i64 1]) (by simp [results, Tryz.results56, go_sem, k0, k1, k2]) rfl (RetDE.z LP.below _)
  · rw [if_pos rfl]
    simp only [hw, if_true] at g1
    by_cases hm : m < 0
    · rw [if_pos hm]
      simp only [if_pos hm] at g1
      have H1 := Lib.hid g1
      clear g1 hx hn1 hw lm he hv hT hm
      go_enter Tryz.func56, Tryz.ntmps56
      go_wp2_with fail
      have L := ((L0.varD (w.heap.size) (by simp) (ng m) A (zl m) c e).varD (w.heap.size + 1) (by simp) false none 0 0 0)
      have c00 := L.b0.c30
      have f00 := L.b0.fr 0
      have c01 := L.b0.c31
      have f01 := L.b0.fr 1
      have c02 := L.b0.c32
      have f02 := L.b0.fr 2
      have c10 := L.tl.b0.c30
      have c11 := L.tl.b0.c31
      have c12 := L.tl.b0.c32
      (try go_wp2_with fail)
      refine (H1.out _ _ (isD_n (m := m) (e := e) (s := .slice A (zl m) c) (L.getN (v := .slice A (zl m) c) (x := (m).natAbs) (by simp))) L.below).mono ?_
      rintro e w1 ⟨vd, rfl, id, be⟩
      clear c00 f00 c01 f01 c02 f02 c10 c11 c12
      obtain ⟨A9, c9, rfl, _, in9⟩ := id.form
      replace L := (L.step be).n in9
      clear be id in9
      replace L := L.varD w1.heap.size rfl (ng 0) A9 (zl 0) c9 0
      have x0 := L.b0.c30
      have x1 := L.b0.c31
      have x2 := L.b0.c32
      have R := L.pick [(w.heap.size + 1, 29, #[.bool false, .slice none 0 0, .int .i64 0])] (by simp)
      have r0 := R.b0.c30
      have s0 := R.b0.fr 0
      have r1 := R.b0.c31
      have s1 := R.b0.fr 1
      have r2 := R.b0.c32
      have s2 := R.b0.fr 2
      go_wp2_with fail
      have LP := R.putD (by omega) (by first | (simp; done) | (simp; omega)) false none 0 0 0
      have k0 := LP.b0.c30
      have k1 := LP.b0.c31
      have k2 := LP.b0.c32
      unfold put3 at k0 k1 k2
      exact bodyPost_ret (v := .tuple #[.agg #[.bool false, .slice none 0 0, .int .i64 0], .int .i64 4]) (by simp [results, Tryz.results56, go_sem, k0, k1, k2]) rfl (RetDE.z LP.below _)
    · rw [if_neg hm]
      simp only [if_neg hm] at g1
      obtain ⟨s0, s1, s2, s3, s4, s5, s6⟩ := sq_size lm he (Int.not_lt.1 hm) hw
      obtain ⟨q1, q2, q3, q4, q5, q6⟩ := sq_square hw s5 s2
      obtain ⟨_, k0, k1⟩ := work_perm hw
      have g2 := fun v u W h1 h2 (hW : Below w.heap.size w W) => dmul_any (mkM (sqR (dq m e) k) (-k)) (mkE (sqR (dq m e) k) (-k)) (mkM (sqR (dq m e) k) (-k)) (mkE (sqR (dq m e) k) (-k)) v u W h1 h2 (by omega) (by omega) (by omega) (by omega) (hT.mono hW)
      rw [q3] at g2
      have g3 := fun v u W h1 h2 => dcmp_any (mkM (mkM (sqR (dq m e) k) (-k) * mkM (sqR (dq m e) k) (-k)) (mkE (sqR (dq m e) k) (-k) + mkE (sqR (dq m e) k) (-k))) (mkE (mkM (sqR (dq m e) k) (-k) * mkM (sqR (dq m e) k) (-k)) (mkE (sqR (dq m e) k) (-k) + mkE (sqR (dq m e) k) (-k))) m e v u W h1 h2 (by omega) (by omega) (by omega) (by omega)
      have hx0 := dcm_zero_iff (mkM (mkM (sqR (dq m e) k) (-k) * mkM (sqR (dq m e) k) (-k)) (mkE (sqR (dq m e) k) (-k) + mkE (sqR (dq m e) k) (-k))) (mkE (mkM (sqR (dq m e) k) (-k) * mkM (sqR (dq m e) k) (-k)) (mkE (sqR (dq m e) k) (-k) + mkE (sqR (dq m e) k) (-k))) m e
      rw [q6] at hx0
      obtain ⟨x, hx9⟩ : ∃ z, dcm (mkM (mkM (sqR (dq m e) k) (-k) * mkM (sqR (dq m e) k) (-k)) (mkE (sqR (dq m e) k) (-k) + mkE (sqR (dq m e) k) (-k))) (mkE (mkM (sqR (dq m e) k) (-k) * mkM (sqR (dq m e) k) (-k)) (mkE (sqR (dq m e) k) (-k) + mkE (sqR (dq m e) k) (-k))) m e = z := ⟨_, rfl⟩
      rw [hx9] at hx0
      unfold dcm at hx9
      rw [hx9] at g3
      have g4 := fun W (hW : Below w.heap.size w W) => gunit_any k W hk1 hk2 (hT.mono hW)
      have pk : permB k = true := by unfold permB; rw [decide_eq_true (show -2048 ≤ k by omega), decide_eq_true (show k ≤ 8192 by omega)]; rfl
      obtain ⟨u1, u2, u3⟩ := mk_unit k0 k1
      rw [(g_yes pk _).1, (g_yes pk _).2.1, (g_yes pk _).2.2, u1, u2, u3] at g4
      have z1 : zl 1 ≤ 1 := len_le1 (by decide)
      have g5 := fun v u W h1 h2 (hW : Below w.heap.size w W) => dadd_any (mkM (sqR (dq m e) k) (-k)) (mkE (sqR (dq m e) k) (-k)) 1 (-k) v u W h1 h2 (by omega) (by omega) (by omega) (by omega) (hT.mono hW)
      obtain ⟨n1, n2⟩ := mk_next k0 s5
      rw [n1, n2] at g5
      have hU : sqU (dq m e) k = if x = 0 then sqR (dq m e) k else sqR (dq m e) k + 1 := by
        unfold sqU
        by_cases h0 : x = 0
        · rw [if_pos h0, if_pos (hx0.1 h0)]
        · rw [if_neg h0, if_neg (fun h => h0 (hx0.2 h))]
      obtain ⟨j, hj⟩ : ∃ z, -k = z := ⟨_, rfl⟩
      rw [hj] at g1 g2 g3 g4 g5 s6 ⊢
      obtain ⟨R, hR⟩ : ∃ z, sqR (dq m e) k = z := ⟨_, rfl⟩
      rw [hR] at g1 g2 g3 g5 hU
      obtain ⟨N, hN⟩ : ∃ z, mkM R j = z := ⟨_, rfl⟩
      obtain ⟨G, hG⟩ : ∃ z, mkE R j = z := ⟨_, rfl⟩
      rw [hN, hG] at g1 g2 g3 g5
      obtain ⟨S, hS⟩ : ∃ z, mkM (N * N) (G + G) = z := ⟨_, rfl⟩
      obtain ⟨F, hF⟩ : ∃ z, mkE (N * N) (G + G) = z := ⟨_, rfl⟩
      rw [hS, hF] at g2 g3
      have H1 := Lib.hid g1
      have H2 := Lib.hid g2
      have H3 := Lib.hid g3
      have H4 := Lib.hid g4
      clear g1 g2 g3 g4 q1 q2 q3 q4 q5 q6 hx0 hx9 s0 s1 s2 s3 s4 s5 k0 k1 pk u1 u2 u3 z1 n1 n2 hS hF hx hn1 hw lm he hv hT hm
      rw [hU] at s6 ⊢
      clear hU
      by_cases h0 : x = 0
      · rw [if_pos h0]
        have b0 : (x == 0) = true := by simpa using h0
        rw [hN, hG]
        clear h0 hN hG hR hj s6 g5
        go_enter Tryz.func56, Tryz.ntmps56
        go_wp2_with fail
        have L := ((L0.varD (w.heap.size) (by simp) (ng m) A (zl m) c e).varD (w.heap.size + 1) (by simp) false none 0 0 0)
        have c00 := L.b0.c30
        have f00 := L.b0.fr 0
        have c01 := L.b0.c31
        have f01 := L.b0.fr 1
        have c02 := L.b0.c32
        have f02 := L.b0.fr 2
        have c10 := L.tl.b0.c30
        have c11 := L.tl.b0.c31
        have c12 := L.tl.b0.c32
        (try go_wp2_with fail)
        clear c00 f00 c01 f01 c02 f02 c10 c11 c12
        refine (H1.out _ _ (isD_n (m := m) (e := e) (s := .slice A (zl m) c) (L.getN (v := .slice A (zl m) c) (x := (m).natAbs) (by simp))) L.below).mono ?_
        rintro e w1 ⟨vv, rfl, id, be⟩
        obtain ⟨A8, c8, rfl, _, in9⟩ := id.form
        replace L := (L.step be).n in9
        clear be id in9
        have hlg8 := L.b0.lt
        replace L := L.varD w1.heap.size rfl (ng N) A8 (zl N) c8 G
        have cel00 := L.b0.c30
        have cel01 := L.b0.c31
        have cel02 := L.b0.c32
        go_wp2_with fail
        obtain ⟨g8, hg⟩ : ∃ g, w1.heap.size = g := ⟨_, rfl⟩
        rw [hg] at L hlg8 cel00 cel01 cel02 ⊢
        clear hg
        refine (H2.out _ _ _ (isD_n (m := N) (e := G) (s := .slice A8 (zl N) c8) (L.getN (by simp))) (isD_n (m := N) (e := G) (s := .slice A8 (zl N) c8) (L.getN (by simp))) L.below).mono ?_
        rintro e w2 ⟨vv, rfl, id, be⟩
        clear cel00 cel01 cel02
        obtain ⟨A7, c7, rfl, _, in9⟩ := id.form
        replace L := (L.step be).n in9
        clear be id in9
        have hlg7 := L.b0.lt
        replace L := L.varD w2.heap.size rfl (ng S) A7 (zl S) c7 F
        have cel00 := L.b0.c30
        have cel01 := L.b0.c31
        have cel02 := L.b0.c32
        have cel30 := L.tl.tl.tl.b0.c30
        have cel31 := L.tl.tl.tl.b0.c31
        have cel32 := L.tl.tl.tl.b0.c32
        go_wp2_with fail
        obtain ⟨g7, hg⟩ : ∃ g, w2.heap.size = g := ⟨_, rfl⟩
        rw [hg] at L hlg7 cel00 cel01 cel02 ⊢
        clear hg
        refine (H3.out _ _ _ (isD_n (m := S) (e := F) (s := .slice A7 (zl S) c7) (L.getN (by simp))) (isD_n (m := m) (e := e) (s := .slice A (zl m) c) (L.getN (v := .slice A (zl m) c) (x := (m).natAbs) (by simp)))).mono ?_
        rintro e w3 ⟨rfl, be⟩
        clear cel00 cel01 cel02 cel30 cel31 cel32
        replace L := L.step be
        clear be
        replace L := L.pick [(w.heap.size + 1, 29, #[.bool false, .slice none 0 0, .int .i64 0]), (g8, 29, #[.bool (ng N), .slice A8 (zl N) c8, .int .i64 G])] (by simp)
        have c00 := L.b0.c30
        have f00 := L.b0.fr 0
        have c01 := L.b0.c31
        have f01 := L.b0.fr 1
        have c02 := L.b0.c32
        have f02 := L.b0.fr 2
        have c10 := L.tl.b0.c30
        have c11 := L.tl.b0.c31
        have c12 := L.tl.b0.c32
        (try go_wp2_with fail)
        have LP := L.putD (by omega) (by first | (simp; done) | (simp; omega)) (ng N) A8 (zl N) c8 (G)
        have k0 := LP.b0.c30
        have k1 := LP.b0.c31
        have k2 := LP.b0.c32
        unfold put3 at k0 k1 k2
        exact bodyPost_ret (v := .tuple #[.agg #[.bool (ng N), .slice A8 (zl N) c8, .int .i64 (G)], .int .i64 0]) (by simp [results, Tryz.results56, go_sem, k0, k1, k2]) rfl ⟨_, rfl, isD_n (LP.getN (by simp)), LP.below⟩
      · rw [if_neg h0] at s6
        rw [if_neg h0]
        rw [s6] at g5
        have H5 := Lib.hid g5
        have b0 : (x == 0) = false := by simpa using h0
        obtain ⟨M2, hM2⟩ : ∃ z, mkM (R + 1) j = z := ⟨_, rfl⟩
        obtain ⟨E2, hE2⟩ : ∃ z, mkE (R + 1) j = z := ⟨_, rfl⟩
        rw [hM2, hE2] at H5 ⊢
        clear h0 hN hG hR hj s6 g5 hM2 hE2
        go_enter Tryz.func56, Tryz.ntmps56
        go_wp2_with fail
        have L := ((L0.varD (w.heap.size) (by simp) (ng m) A (zl m) c e).varD (w.heap.size + 1) (by simp) false none 0 0 0)
        have c00 := L.b0.c30
        have f00 := L.b0.fr 0
        have c01 := L.b0.c31
        have f01 := L.b0.fr 1
        have c02 := L.b0.c32
        have f02 := L.b0.fr 2
        have c10 := L.tl.b0.c30
        have c11 := L.tl.b0.c31
        have c12 := L.tl.b0.c32
        (try go_wp2_with fail)
        clear c00 f00 c01 f01 c02 f02 c10 c11 c12
        refine (H1.out _ _ (isD_n (m := m) (e := e) (s := .slice A (zl m) c) (L.getN (v := .slice A (zl m) c) (x := (m).natAbs) (by simp))) L.below).mono ?_
        rintro e w1 ⟨vv, rfl, id, be⟩
        obtain ⟨A8, c8, rfl, _, in9⟩ := id.form
        replace L := (L.step be).n in9
        clear be id in9
        have hlg8 := L.b0.lt
        replace L := L.varD w1.heap.size rfl (ng N) A8 (zl N) c8 G
        have cel00 := L.b0.c30
        have cel01 := L.b0.c31
        have cel02 := L.b0.c32
        go_wp2_with fail
        obtain ⟨g8, hg⟩ : ∃ g, w1.heap.size = g := ⟨_, rfl⟩
        rw [hg] at L hlg8 cel00 cel01 cel02 ⊢
        clear hg
        refine (H2.out _ _ _ (isD_n (m := N) (e := G) (s := .slice A8 (zl N) c8) (L.getN (by simp))) (isD_n (m := N) (e := G) (s := .slice A8 (zl N) c8) (L.getN (by simp))) L.below).mono ?_
        rintro e w2 ⟨vv, rfl, id, be⟩
        clear cel00 cel01 cel02
        obtain ⟨A7, c7, rfl, _, in9⟩ := id.form
        replace L := (L.step be).n in9
        clear be id in9
        have hlg7 := L.b0.lt
        replace L := L.varD w2.heap.size rfl (ng S) A7 (zl S) c7 F
        have cel00 := L.b0.c30
        have cel01 := L.b0.c31
        have cel02 := L.b0.c32
        have cel30 := L.tl.tl.tl.b0.c30
        have cel31 := L.tl.tl.tl.b0.c31
        have cel32 := L.tl.tl.tl.b0.c32
        go_wp2_with fail
        obtain ⟨g7, hg⟩ : ∃ g, w2.heap.size = g := ⟨_, rfl⟩
        rw [hg] at L hlg7 cel00 cel01 cel02 ⊢
        clear hg
        refine (H3.out _ _ _ (isD_n (m := S) (e := F) (s := .slice A7 (zl S) c7) (L.getN (by simp))) (isD_n (m := m) (e := e) (s := .slice A (zl m) c) (L.getN (v := .slice A (zl m) c) (x := (m).natAbs) (by simp)))).mono ?_
        rintro e w3 ⟨rfl, be⟩
        clear cel00 cel01 cel02 cel30 cel31 cel32
        replace L := L.step be
        clear be
        (try go_wp2_with fail)
        refine (H4.out _ L.below).mono ?_
        rintro e w4 ⟨vv, rfl, id, be⟩
        obtain ⟨A6, c6, rfl, _, in9⟩ := id.form
        replace L := (L.step be).n in9
        clear be id in9
        have hlg6 := L.b0.lt
        have hlg6' := L.tl.b0.lt
        replace L := L.varD w4.heap.size rfl (ng 1) A6 (zl 1) c6 j
        have cel00 := L.b0.c30
        have cel01 := L.b0.c31
        have cel02 := L.b0.c32
        have cel20 := L.tl.tl.b0.c30
        have cel21 := L.tl.tl.b0.c31
        have cel22 := L.tl.tl.b0.c32
        go_wp2_with fail
        obtain ⟨g6, hg⟩ : ∃ g, w4.heap.size = g := ⟨_, rfl⟩
        rw [hg] at L hlg6 hlg6' cel00 cel01 cel02 ⊢
        clear hg
        refine (H5.out _ _ _ (isD_n (m := N) (e := G) (s := .slice A8 (zl N) c8) (L.getN (by simp))) (isD_n (m := 1) (e := j) (s := .slice A6 (zl 1) c6) (L.getN (by simp))) L.below).mono ?_
        rintro e w5 ⟨vd, rfl, id, be⟩
        clear cel00 cel01 cel02 cel20 cel21 cel22
        obtain ⟨A9, c9, rfl, _, in9⟩ := id.form
        replace L := (L.step be).n in9
        clear be id in9
        replace L := L.pick [(w.heap.size + 1, 29, #[.bool false, .slice none 0 0, .int .i64 0])] (by simp)
        have c00 := L.b0.c30
        have f00 := L.b0.fr 0
        have c01 := L.b0.c31
        have f01 := L.b0.fr 1
        have c02 := L.b0.c32
        have f02 := L.b0.fr 2
        go_wp2_with fail
        have LP := L.putD (by omega) (by first | (simp; done) | (simp; omega)) (ng M2) A9 (zl M2) c9 (E2)
        have k0 := LP.b0.c30
        have k1 := LP.b0.c31
        have k2 := LP.b0.c32
        unfold put3 at k0 k1 k2
        exact bodyPost_ret (v := .tuple #[.agg #[.bool (ng M2), .slice A9 (zl M2) c9, .int .i64 (E2)], .int .i64 0]) (by simp [results, Tryz.results56, go_sem, k0, k1, k2]) rfl ⟨_, rfl, isD_n (LP.getN (by simp)), LP.below⟩


end Go.Proofs.YtfnklkdbieikeaaGreatDoor
