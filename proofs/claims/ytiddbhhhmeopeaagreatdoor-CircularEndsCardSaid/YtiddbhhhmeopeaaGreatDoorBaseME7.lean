/- Base texts, joined: DyMath, DyMath2, DyLaw, GridMath. -/
import Derived.Test.YtiddbhhhmeopeaaGreatDoorBaseEE7
import Derived.Test.YtiddbhhhmeopeaaGreatDoorBaseDE7
/- The numbers that dyadics stand for: fractions; sums and products of dyadics are exact; what is short is not too large. -/
namespace Go.Proofs.YtiddbhhhmeopeaaGreatDoor
set_option maxHeartbeats 64000000
open Go.RowKit
set_option linter.unusedVariables false
set_option linter.unusedSimpArgs false
set_option maxRecDepth 100000
def dq (m e : Int) : Rat:=Rat.divInt (m * 2 ^ e.toNat) ((2 ^ (-e).toNat : Nat) : Int)
theorem two_ne (n : Nat) : (((2 ^ n : Nat) : Int)) ≠ 0:=by
 have:=Nat.pow_pos (n:=n) (show 0 < 2 by omega)
 omega
theorem cast2 (n : Nat) : (((2 ^ n : Nat) : Int)) = (2 : Int) ^ n:=by rw [Int.natCast_pow]; rfl
theorem pow2_ne (n : Nat) : (2 : Int) ^ n ≠ 0:=by rw [← cast2]; exact two_ne n
theorem dq_eq {m e n k F : Int} (h : m * 2 ^ (e - F).toNat = n * 2 ^ (k - F).toNat) (h1 : F ≤ e) (h2 : F ≤ k) : dq m e = dq n k:=by
 unfold dq
 rw [Rat.divInt_eq_divInt_iff (two_ne _) (two_ne _), cast2, cast2]
 refine Int.eq_of_mul_eq_mul_right (pow2_ne (-F).toNat) ?_
 have e1 : m * 2 ^ e.toNat * 2 ^ (-k).toNat * 2 ^ (-F).toNat = m * 2 ^ (e - F).toNat * 2 ^ (F.toNat + (-e).toNat + (-k).toNat):=by
  rw [Int.mul_assoc m, Int.mul_assoc m, Int.mul_assoc m, ← Int.pow_add, ← Int.pow_add, ← Int.pow_add]
  congr 2
  omega
 have e2 : n * 2 ^ k.toNat * 2 ^ (-e).toNat * 2 ^ (-F).toNat = n * 2 ^ (k - F).toNat * 2 ^ (F.toNat + (-e).toNat + (-k).toNat):=by
  rw [Int.mul_assoc n, Int.mul_assoc n, Int.mul_assoc n, ← Int.pow_add, ← Int.pow_add, ← Int.pow_add]
  congr 2
  omega
 rw [e1, e2, h]
theorem odd_form (m : Int) : oddM m * 2 ^ tz m.natAbs = m:=by
 by_cases h0 : m = 0
 ·subst h0; rw [oddM_zero]; simp
 ·unfold oddM
  obtain ⟨k, hk⟩:=tz_form (x:=m.natAbs) (by omega)
  have hd : m.natAbs / 2 ^ tz m.natAbs = 2 * k + 1:=by
   have:=Nat.mul_div_cancel_left (2 * k + 1) (Nat.pow_pos (n:=tz m.natAbs) (show 0 < 2 by omega))
   rwa [← hk] at this
  rw [hd]
  have e1 : sg (ng m) (2 * k + 1) * 2 ^ tz m.natAbs = sg (ng m) (2 ^ tz m.natAbs * (2 * k + 1)):=by
   unfold sg
   split
   ·rw [Int.natCast_mul, cast2, Int.mul_comm, ← Int.mul_neg]
   ·rw [Int.natCast_mul, cast2, Int.mul_comm]
  rw [e1, ← hk, sg_self]
theorem dq_zero (e : Int) : dq 0 e = 0:=by
 unfold dq
 rw [Int.zero_mul, Rat.zero_divInt]
theorem dq_mk {m e : Int} (h : mkR m e = 0) : dq (mkM m e) (mkE m e) = dq m e:=by
 unfold mkM mkE
 rw [if_pos h, if_pos h]
 by_cases h0 : m = 0
 ·subst h0; rw [oddM_zero, dq_zero, dq_zero]
 ·rw [if_neg h0]
  refine dq_eq (F:=e) ?_ (by unfold oddE; omega) (Int.le_refl _)
  rw [show (oddE m e - e).toNat = tz m.natAbs from by unfold oddE; omega, odd_form, show (e - e).toNat = 0 from by omega, Int.pow_zero, Int.mul_one]
theorem dq_add (m e n k : Int) : dq (addS m e n k) (min e k) = dq m e + dq n k:=by
 have hm : dq m e = dq (m * 2 ^ (e - min e k).toNat) (min e k):=dq_eq (F:=min e k) (by rw [show (min e k - min e k).toNat = 0 from by omega, Int.pow_zero, Int.mul_one]) (by omega) (by omega)
 have hn : dq n k = dq (n * 2 ^ (k - min e k).toNat) (min e k):=dq_eq (F:=min e k) (by rw [show (min e k - min e k).toNat = 0 from by omega, Int.pow_zero, Int.mul_one]) (by omega) (by omega)
 rw [hm, hn]
 unfold addS dq
 generalize m * 2 ^ (e - min e k).toNat = a
 generalize n * 2 ^ (k - min e k).toNat = b
 have hd:=two_ne (-(min e k)).toNat
 generalize ((2 ^ (-(min e k)).toNat : Nat) : Int) = d at *
 generalize (2 : Int) ^ (min e k).toNat = p
 rw [Rat.divInt_add_divInt _ _ hd hd, Rat.divInt_eq_divInt_iff hd (Int.mul_ne_zero hd hd), ← Int.add_mul, Int.add_mul a b p, Int.mul_assoc]
theorem dq_mul (m e n k : Int) : dq (m * n) (e + k) = dq m e * dq n k:=by
 unfold dq
 rw [Rat.divInt_mul_divInt, Rat.divInt_eq_divInt_iff (two_ne _) (Int.mul_ne_zero (two_ne _) (two_ne _)), cast2, cast2, cast2]
 have e1 : m * n * 2 ^ (e + k).toNat * (2 ^ (-e).toNat * 2 ^ (-k).toNat) = m * n * 2 ^ ((e + k).toNat + ((-e).toNat + (-k).toNat)):=by
  rw [Int.mul_assoc (m * n), ← Int.pow_add, ← Int.pow_add]
 have e2 : m * 2 ^ e.toNat * (n * 2 ^ k.toNat) * 2 ^ (-(e + k)).toNat = m * n * 2 ^ (e.toNat + k.toNat + (-(e + k)).toNat):=by
  rw [Int.mul_assoc m, ← Int.mul_assoc ((2 : Int) ^ e.toNat) n, Int.mul_comm ((2 : Int) ^ e.toNat) n, Int.mul_assoc n, ← Int.pow_add, ← Int.mul_assoc m n, Int.mul_assoc (m * n), ← Int.pow_add]
 rw [e1, e2]
 congr 2
 omega
theorem dq_neg (m e : Int) : dq (-m) e = -dq m e:=by
 unfold dq
 rw [Rat.neg_divInt, Int.neg_mul]
theorem odd_gcd {x : Nat} (h : x % 2 = 1) (n : Nat) : Nat.gcd x (2 ^ n) = 1:=by
  induction n with
  | zero => simp
  | succ n ih =>
    rw [Nat.pow_succ]
    refine Nat.Coprime.mul_right ih ?_
    show Nat.gcd x 2 = 1
    rw [Nat.gcd_comm, Nat.gcd_rec, h]
    rfl
theorem dq_form {m e : Int} (h : Dv m e) : (dq m e).num = m * 2 ^ e.toNat ∧ (dq m e).den = 2 ^ (-e).toNat:=by
 unfold dq
 have hg : Nat.gcd (m * 2 ^ e.toNat).natAbs (2 ^ (-e).toNat) = 1:=by
  rcases Int.lt_or_le e 0 with h0 | h0
  ·rw [show e.toNat = 0 from by omega, Int.pow_zero, Int.mul_one]
   refine odd_gcd ?_ _
   rcases h with ⟨_, h2⟩ | ⟨_, h2⟩
   ·omega
   ·unfold fits8 at h2
    rw [Bool.and_eq_true, Bool.and_eq_true, Bool.and_eq_true] at h2
    have:=h2.2.2.2
    unfold bitB at this
    rw [decide_eq_true_iff, Nat.pow_zero, Nat.div_one] at this
    exact this
  ·rw [show (-e).toNat = 0 from by omega, Nat.pow_zero, Nat.gcd_one_right]
 obtain ⟨e1, e2⟩:=divInt_pair (m * 2 ^ e.toNat) ((2 ^ (-e).toNat : Nat) : Int) (two_ne _)
 rw [e1, e2, Int.natAbs_natCast, hg, Nat.div_one, Nat.div_one]
 refine ⟨?_, rfl⟩
 have : ng ((2 ^ (-e).toNat : Nat) : Int) = false:=ng_no (Int.natCast_nonneg _)
 rw [this, show (ng (m * 2 ^ e.toNat) != false) = ng (m * 2 ^ e.toNat) from by simp]
 exact sg_self _
theorem mk_fits {m e : Int} (h : zl m ≤ 1900) (h1 : -4000 ≤ e) (h2 : e ≤ 4000) : mkR m e = 0:=by
 unfold mkR
 rw [if_neg (by omega)]
 by_cases h0 : m = 0
 ·rw [if_pos h0]
 ·rw [if_neg h0]
  have ht:=tz_le8 m.natAbs (by omega)
  have e1 : zl m = len m.natAbs:=rfl
  have hb : blen (oddM m).natAbs ≤ 65536:=by
   have:=blen_le_len (oddM m).natAbs
   have h3:=zl_odd m
   have e2 : zl (oddM m) = len (oddM m).natAbs:=rfl
   omega
  have ho : bitB (oddM m).natAbs 0 = true:=by
   obtain ⟨k, hk⟩:=tz_form (x:=m.natAbs) (by omega)
   have hd : m.natAbs / 2 ^ tz m.natAbs = 2 * k + 1:=by
    have:=Nat.mul_div_cancel_left (2 * k + 1) (Nat.pow_pos (n:=tz m.natAbs) (show 0 < 2 by omega))
    rwa [← hk] at this
   unfold bitB
   rw [oddM_abs, hd, Nat.pow_zero, Nat.div_one]
   exact decide_eq_true (by omega)
  have hf : fits8 (oddM m) (oddE m e) = true:=by
   unfold fits8 oddE
   rw [decide_eq_true hb, decide_eq_true (by omega), decide_eq_true (by omega), ho]
   rfl
  rw [hf]
  rfl

end Go.Proofs.YtiddbhhhmeopeaaGreatDoor


/- The order of dyadics; equal numbers have one valid dyadic; the dyadic of a dyadic's fraction. -/
namespace Go.Proofs.YtiddbhhhmeopeaaGreatDoor
set_option maxHeartbeats 64000000
open Go.RowKit
set_option linter.unusedVariables false
set_option linter.unusedSimpArgs false
set_option maxRecDepth 100000

theorem cmpI_scale (a b : Int) {c : Int} (h : 0 < c) : cmpI (a * c) (b * c) = cmpI a b:=by
 rcases Int.lt_trichotomy a b with h1 | h1 | h1
 ·rw [cmpI_lt h1, cmpI_lt (Int.mul_lt_mul_of_pos_right h1 h)]
 ·subst h1; rw [cmpI_eq, cmpI_eq]
 ·rw [cmpI_gt h1, cmpI_gt (Int.mul_lt_mul_of_pos_right h1 h)]
theorem pow2_pos (n : Nat) : (0 : Int) < 2 ^ n:=by
 rw [← cast2]
 have:=Nat.pow_pos (n:=n) (show 0 < 2 by omega)
 omega
theorem dv_odd {m e : Int} (h : Dv m e) (h0 : m ≠ 0) : m.natAbs % 2 = 1:=by
 rcases h with ⟨h2, _⟩ | ⟨_, h2⟩
 ·exact absurd h2 h0
 ·unfold fits8 at h2
  rw [Bool.and_eq_true, Bool.and_eq_true, Bool.and_eq_true] at h2
  have:=h2.2.2.2
  unfold bitB at this
  rw [decide_eq_true_iff, Nat.pow_zero, Nat.div_one] at this
  exact this
theorem dv_zero {m e : Int} (h : Dv m e) (h0 : m = 0) : e = 0:=by
 rcases h with ⟨_, h2⟩ | ⟨h2, _⟩
 ·exact h2
 ·exact absurd h0 h2
theorem tz_odd {x : Nat} (h : x % 2 = 1) (k : Nat) : tz (x * 2 ^ k) = k:=by
 have : x * 2 ^ k = 2 ^ k * (2 * (x / 2) + 1):=by
  rw [Nat.mul_comm]
  congr 1
  omega
 rw [this]
 exact tz_mul _ _
theorem tz_two (j : Nat) : tz (2 ^ j) = j:=by
 have:=tz_odd (x:=1) rfl j
 rwa [Nat.one_mul] at this
theorem abs_shl (m : Int) (k : Nat) : (m * 2 ^ k).natAbs = m.natAbs * 2 ^ k:=by
 rw [Int.natAbs_mul, Int.natAbs_pow]
 rfl
theorem dv_uniq {m e n k : Int} (h1 : Dv m e) (h2 : Dv n k) (h : dq m e = dq n k) : m = n ∧ e = k:=by
 obtain ⟨a1, a2⟩:=dq_form h1
 obtain ⟨b1, b2⟩:=dq_form h2
 rw [h, b1] at a1
 rw [h, b2] at a2
 have hx : (-k).toNat = (-e).toNat:=by
  have:=congrArg tz a2
  rwa [tz_two, tz_two] at this
 by_cases hm : m = 0
 ·have he:=dv_zero h1 hm
  rw [hm, Int.zero_mul] at a1
  have hn : n = 0:=by
   rcases Int.mul_eq_zero.1 a1 with h3 | h3
   ·exact h3
   ·exact absurd h3 (pow2_ne _)
  exact ⟨by rw [hm, hn], by rw [he, dv_zero h2 hn]⟩
 ·have hn : n ≠ 0:=fun h3 => by
   rw [h3, Int.zero_mul] at a1
   rcases Int.mul_eq_zero.1 a1.symm with h4 | h4
   ·exact hm h4
   ·exact absurd h4 (pow2_ne _)
  have om:=dv_odd h1 hm
  have on:=dv_odd h2 hn
  have ht : k.toNat = e.toNat:=by
   have h3:=congrArg (fun z : Int => tz z.natAbs) a1
   simp only [abs_shl] at h3
   rwa [tz_odd on, tz_odd om] at h3
  have hk : e = k:=by omega
  rw [ht] at a1
  exact ⟨(Int.eq_of_mul_eq_mul_right (pow2_ne _) a1).symm, hk⟩
theorem cmp_same {m e n k : Int} (h1 : Dv m e) (h2 : Dv n k) : decide (cmpI (m * 2 ^ (e - min e k).toNat) (n * 2 ^ (k - min e k).toNat) = 0) = (decide (e = k) && decide (m = n)):=by
 by_cases h : cmpI (m * 2 ^ (e - min e k).toNat) (n * 2 ^ (k - min e k).toNat) = 0
 ·obtain ⟨a, b⟩:=dv_uniq h1 h2 (dq_eq (cmpI_zero h) (by omega) (by omega))
  subst a; subst b
  rw [decide_eq_true h, decide_eq_true rfl, decide_eq_true rfl]
  rfl
 ·rw [decide_eq_false h]
  symm
  rw [Bool.and_eq_false_iff]
  by_cases he : e = k
  ·right
   refine decide_eq_false (fun hm => h ?_)
   subst he; subst hm
   exact cmpI_eq _
  ·left; exact decide_eq_false he
theorem odd_shl {m : Int} (h : m.natAbs % 2 = 1) (j : Nat) : oddM (m * 2 ^ j) = m:=by
 have h1:=odd_form (m * 2 ^ j)
 rw [abs_shl, tz_odd h] at h1
 exact Int.eq_of_mul_eq_mul_right (pow2_ne _) h1
theorem dv_bound {m e : Int} (h : Dv m e) : -65536 ≤ e ∧ e ≤ 65536:=by
 rcases h with ⟨_, h2⟩ | ⟨_, h2⟩
 ·omega
 ·unfold fits8 at h2
  rw [Bool.and_eq_true, Bool.and_eq_true, Bool.and_eq_true] at h2
  exact ⟨of_decide_eq_true h2.2.1, of_decide_eq_true h2.2.2.1⟩
end Go.Proofs.YtiddbhhhmeopeaaGreatDoor


/- What the walks of layer 8's laws lean on. -/
namespace Go.Proofs.YtiddbhhhmeopeaaGreatDoor
set_option maxHeartbeats 64000000
open Go.RowKit
set_option linter.unusedVariables false
set_option linter.unusedSimpArgs false
set_option maxRecDepth 100000
attribute [local go_sem ↓] Go.wp_at_zero Go.wp_at_succ

theorem len_two (j : Nat) : len (2 ^ j) ≤ j / 32 + 1:=by
 refine len_le ?_
 rw [W32_pow]
 exact Nat.pow_lt_pow_right (by omega) (by omega)
theorem zl_two (m : Int) (k : Nat) : zl (m * 2 ^ k) ≤ zl m + (k / 32 + 1):=by
 have h : (m * 2 ^ k).natAbs = m.natAbs * 2 ^ k:=by rw [Int.natAbs_mul, Int.natAbs_pow]; rfl
 unfold zl
 rw [h]
 exact Nat.le_trans (len_mul _ _) (Nat.add_le_add_left (len_two k) _)
theorem zl_addS (m e n k : Int) (K : Nat) (he : -(K : Int) ≤ e ∧ e ≤ (K : Int)) (hk : -(K : Int) ≤ k ∧ k ≤ (K : Int)) : zl (addS m e n k) ≤ max (zl m) (zl n) + (2 * K / 32 + 2):=by
 unfold addS
 have h1:=zl_two m (e - min e k).toNat
 have h2:=zl_two n (k - min e k).toNat
 have h3:=zl_add (m * 2 ^ (e - min e k).toNat) (n * 2 ^ (k - min e k).toNat)
 have h4 : (e - min e k).toNat / 32 ≤ 2 * K / 32:=Nat.div_le_div_right (by omega)
 have h5 : (k - min e k).toNat / 32 ≤ 2 * K / 32:=Nat.div_le_div_right (by omega)
 omega


end Go.Proofs.YtiddbhhhmeopeaaGreatDoor


/- Rounding: floors of fractions; multiples of a power of two. -/
namespace Go.Proofs.YtiddbhhhmeopeaaGreatDoor
set_option maxHeartbeats 64000000
open Go.RowKit
set_option linter.unusedVariables false
set_option linter.unusedSimpArgs false
set_option maxRecDepth 100000

theorem divInt_le {a b c d : Int} (hb : 0 < b) (hd : 0 < d) : (Rat.divInt a b ≤ Rat.divInt c d) ↔ a * d ≤ c * b:=by
 rw [Rat.le_iff_sub_nonneg, Rat.divInt_sub_divInt _ _ (by omega) (by omega), Rat.divInt_nonneg_iff_of_pos_right (Int.mul_pos hd hb)]
 omega
theorem int_div (x : Int) : (x : Rat) = Rat.divInt x 1:=by
 rw [show (1 : Int) = ((1 : Nat) : Int) from rfl, Rat.divInt_ofNat, Rat.mkRat_one]
theorem rlt_le {a b c : Rat} (h1 : a ≤ b) (h2 : b < c) : a < c:=by
 rw [← Rat.not_le]
 exact fun h => Rat.not_le.2 h2 (Rat.le_trans h h1)
theorem rle_lt {a b c : Rat} (h1 : a < b) (h2 : b ≤ c) : a < c:=by
 rw [← Rat.not_le]
 exact fun h => Rat.not_le.2 h1 (Rat.le_trans h2 h)
theorem floor_divInt (n d : Int) (hd : 0 < d) : (Rat.divInt n d).floor = n / d:=by
 apply Int.le_antisymm
 ·have h : ((Rat.divInt n d).floor : Rat) ≤ Rat.divInt n d:=Rat.floor_le _
  rw [int_div, divInt_le (by omega) hd, Int.mul_one] at h
  exact (Int.le_ediv_iff_mul_le hd).2 h
 ·rw [Rat.le_floor_iff, int_div, divInt_le (by omega) hd, Int.mul_one]
  exact Int.ediv_mul_le n (by omega)
def cutQ (q : Rat) (p : Int) : Int:=(q * dq 1 p).floor
theorem cut_eq (a : Int) (d : Nat) (hd : 0 < d) (p : Int) : cutQ (Rat.divInt a d) p = a * 2 ^ p.toNat / ((d : Int) * 2 ^ (-p).toNat):=by
 unfold cutQ dq
 rw [Rat.divInt_mul_divInt, Int.one_mul, cast2, floor_divInt]
 exact Int.mul_pos (by omega) (Int.pow_pos (by omega))

theorem dq_int (C : Int) : dq C 0 = (C : Rat):=by
 rw [int_div]
 unfold dq
 simp
theorem dq_scale (C e : Int) : dq C e = (C : Rat) * dq 1 e:=by
 have h:=dq_mul C 0 1 e
 rw [Int.mul_one, Int.zero_add, dq_int] at h
 exact h
theorem dq_unit (p : Int) : dq 1 p * dq 1 (-p) = 1:=by
 have h:=dq_mul 1 p 1 (-p)
 rw [Int.mul_one, Int.add_right_neg, dq_int] at h
 rw [← h]; rfl
theorem dq_pos (p : Int) : 0 < dq 1 p:=by
 rw [← Rat.not_le, show (0 : Rat) = Rat.divInt 0 1 from (Rat.zero_divInt 1).symm]
 unfold dq
 rw [divInt_le (by rw [cast2]; exact Int.pow_pos (by omega)) (by omega), Int.one_mul, Int.mul_one, Int.zero_mul]
 have:=pow2_pos p.toNat
 omega
theorem dq_half (p : Int) : dq 1 (-p) = dq 1 (-(p + 1)) + dq 1 (-(p + 1)):=by
 have h : dq 2 (-(p + 1)) = dq 1 (-p):=dq_eq (F := -(p + 1)) (by rw [show -(p + 1) - -(p + 1) = 0 by omega, show -p - -(p + 1) = 1 by omega]; rfl) (by omega) (by omega)
 rw [← h, dq_scale]
 show ((2 : Int) : Rat) * dq 1 (-(p + 1)) = dq 1 (-(p + 1)) + dq 1 (-(p + 1))
 rw [show (2 : Int) = 1 + 1 from rfl, Rat.intCast_add, Rat.add_mul, show ((1 : Int) : Rat) = 1 from rfl, Rat.one_mul]
theorem dq_succ (C e : Int) : dq (C + 1) e = dq C e + dq 1 e:=by
 rw [dq_scale (C + 1), dq_scale C, Rat.intCast_add, Rat.add_mul, show ((1 : Int) : Rat) = 1 from rfl, Rat.one_mul]
theorem mul_unit (q : Rat) (p : Int) : q * dq 1 p * dq 1 (-p) = q:=by rw [Rat.mul_assoc, dq_unit, Rat.mul_one]
theorem cut_lo (q : Rat) (p : Int) : dq (cutQ q p) (-p) ≤ q:=by
 rw [dq_scale]
 have h : ((cutQ q p : Int) : Rat) ≤ q * dq 1 p:=Rat.floor_le _
 have h2:=Rat.mul_le_mul_of_nonneg_right h (Rat.le_of_lt (dq_pos (-p)))
 rwa [mul_unit] at h2
theorem cut_hi (q : Rat) (p : Int) : q < dq (cutQ q p) (-p) + dq 1 (-p):=by
 rw [← dq_succ, dq_scale]
 have h : q * dq 1 p < ((cutQ q p + 1 : Int) : Rat):=Rat.lt_floor_add_one _
 have h2:=Rat.mul_lt_mul_of_pos_right h (dq_pos (-p))
 rwa [mul_unit] at h2
theorem cut_unique {q : Rat} {p C : Int} (h1 : dq C (-p) ≤ q) (h2 : q < dq C (-p) + dq 1 (-p)) : cutQ q p = C:=by
 have a1:=rlt_le h1 (cut_hi q p)
 have a2:=rlt_le (cut_lo q p) h2
 rw [← dq_succ, dq_scale, dq_scale (cutQ q p + 1)] at a1
 rw [← dq_succ, dq_scale, dq_scale (C + 1)] at a2
 have b1:=Rat.intCast_lt_intCast.1 (Rat.lt_of_mul_lt_mul_right a1 (Rat.le_of_lt (dq_pos (-p))))
 have b2:=Rat.intCast_lt_intCast.1 (Rat.lt_of_mul_lt_mul_right a2 (Rat.le_of_lt (dq_pos (-p))))
 omega
theorem cut_self (C p : Int) : cutQ (dq C (-p)) p = C:=by
 refine cut_unique Rat.le_refl ?_
 have:=(Rat.add_lt_add_left (c:=dq C (-p))).2 (dq_pos (-p))
 rwa [Rat.add_zero] at this
theorem near_lo (q : Rat) (p : Int) : dq ((cutQ q (p + 1) + 1) / 2) (-p) ≤ q + dq 1 (-(p + 1)):=by
 obtain ⟨C, hC⟩:=nm9 ((cutQ q (p + 1) + 1) / 2)
 rw [hC]
 have e1 : dq C (-p) = dq (2 * C) (-(p + 1)):=dq_eq (F := -(p + 1)) (by rw [show -(p + 1) - -(p + 1) = 0 by omega, show -p - -(p + 1) = 1 by omega]; show C * 2 = 2 * C * 1; omega) (by omega) (by omega)
 rw [e1]
 have h1:=cut_lo q (p + 1)
 have h2 : dq (2 * C) (-(p + 1)) ≤ dq (cutQ q (p + 1) + 1) (-(p + 1)):=by
  rw [dq_scale, dq_scale (cutQ q (p + 1) + 1)]
  exact Rat.mul_le_mul_of_nonneg_right (Rat.intCast_le_intCast.2 (by omega)) (Rat.le_of_lt (dq_pos _))
 rw [dq_succ] at h2
 exact Rat.le_trans h2 (Rat.add_le_add_right.2 h1)
theorem near_hi (q : Rat) (p : Int) : q < dq ((cutQ q (p + 1) + 1) / 2) (-p) + dq 1 (-(p + 1)):=by
 obtain ⟨C, hC⟩:=nm9 ((cutQ q (p + 1) + 1) / 2)
 rw [hC]
 have e1 : dq C (-p) = dq (2 * C) (-(p + 1)):=dq_eq (F := -(p + 1)) (by rw [show -(p + 1) - -(p + 1) = 0 by omega, show -p - -(p + 1) = 1 by omega]; show C * 2 = 2 * C * 1; omega) (by omega) (by omega)
 rw [e1]
 have h1:=cut_hi q (p + 1)
 have h2 : dq (cutQ q (p + 1)) (-(p + 1)) ≤ dq (2 * C) (-(p + 1)):=by
  rw [dq_scale, dq_scale (2 * C)]
  exact Rat.mul_le_mul_of_nonneg_right (Rat.intCast_le_intCast.2 (by omega)) (Rat.le_of_lt (dq_pos _))
 exact rle_lt h1 (Rat.add_le_add_right.2 h2)
def permB (p : Int) : Bool:=decide (-2048 ≤ p) && decide (p ≤ 8192)
def gM (C p : Int) : Int:=if permB p then mkM C (-p) else 0
def gE (C p : Int) : Int:=if permB p then mkE C (-p) else 0
def gR (C p : Int) : Int:=if permB p then mkR C (-p) else 1
def onB (m e p : Int) : Bool:=permB p && (decide (m = 0) || decide (-p ≤ e))
theorem perm_yes {p : Int} (h : permB p = true) : -2048 ≤ p ∧ p ≤ 8192:=by
 unfold permB at h
 rw [Bool.and_eq_true, decide_eq_true_iff, decide_eq_true_iff] at h
 exact h
theorem g_no {p : Int} (h : permB p = false) (C : Int) : gM C p = 0 ∧ gE C p = 0 ∧ gR C p = 1:=by
 unfold gM gE gR
 rw [h]
 exact ⟨rfl, rfl, rfl⟩
theorem g_yes {p : Int} (h : permB p = true) (C : Int) : gM C p = mkM C (-p) ∧ gE C p = mkE C (-p) ∧ gR C p = mkR C (-p):=by
 unfold gM gE gR
 rw [h]
 exact ⟨rfl, rfl, rfl⟩

end Go.Proofs.YtiddbhhhmeopeaaGreatDoor

