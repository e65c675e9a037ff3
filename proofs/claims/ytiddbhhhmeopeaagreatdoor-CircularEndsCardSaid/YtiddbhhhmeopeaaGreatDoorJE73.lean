/- Joined: CiC, AtE, CiE, CiI, CoS, CiJ, CiD, CiF, CiG, CiK (what the law leans on). -/
import Derived.Test.YtiddbhhhmeopeaaGreatDoorBaseVE7
import Derived.Test.YtiddbhhhmeopeaaGreatDoorGrPCE7
import Derived.Test.YtiddbhhhmeopeaaGreatDoorJE72
import Derived.Deep.Cut
import Derived.Deep.CutRange
import Derived.Deep.DrawnRows
import Derived.Deep.RegionHeld3
import Derived.Deep.WholeRow
namespace Go.Proofs.YtiddbhhhmeopeaaGreatDoor
set_option maxHeartbeats 64000000
open Go.RowKit
set_option linter.unusedVariables false
set_option linter.unusedSimpArgs false
set_option maxRecDepth 100000
attribute [local go_sem ↓] Go.wp_at_zero Go.wp_at_succ

def snT (X Q : Int) (p : Nat) : Nat → Int
 | 0 => X
 | j + 1 => -(snT X Q p j) * Q / 2 ^ p / ((2 * (j : Int) + 2) * (2 * (j : Int) + 2 + 1))
def snS (X Q : Int) (p : Nat) : Nat → Int
 | 0 => 0
 | j + 1 => snS X Q p j + snT X Q p j
structure SeX (X Q : Int) (p : Nat) : Prop where
 nn : 0 ≤ X
 lt : X * 2147483648 ≤ 2 ^ p
 q : Q = X * X / 2 ^ p
theorem p2_pos (p : Nat) : (0 : Int) < 2 ^ p:=Int.pow_pos (by omega)
theorem SeX.qb {X Q : Int} {p : Nat} (h : SeX X Q p) : 0 ≤ Q ∧ Q * 1099511627776 ≤ 2 ^ p:=by
 have hp:=p2_pos p
 have h1:=h.nn
 have h2:=h.lt
 rw [h.q]
 generalize (2 : Int) ^ p = P at *
 have a : 0 ≤ X * X:=Int.mul_nonneg h1 h1
 refine ⟨Int.ediv_nonneg a (by omega), ?_⟩
 have b:=Int.ediv_mul_le (X * X) (show P ≠ 0 by omega)
 generalize X * X / P = D at *
 have c:=Int.mul_le_mul h2 h2 (by omega) (by omega)
 refine Int.not_lt.1 fun hlt => ?_
 have d:=Int.mul_lt_mul_of_pos_right hlt hp
 have e : D * 1099511627776 * P = D * P * 1099511627776:=by grind
 have f : X * 2147483648 * (X * 2147483648) = X * X * 4611686018427387904:=by grind
 have g : D * P * 1099511627776 ≤ X * X * 1099511627776:=Int.mul_le_mul_of_nonneg_right b (by omega)
 rw [f] at c
 omega
theorem se_step {T Q P N : Int} (hP : 0 < P) (hN : 1 ≤ N) (hQ : 0 ≤ Q) (hQ2 : Q * 1099511627776 ≤ P) : (0 ≤ T → -(T / 1099511627776) - 1 ≤ -T * Q / P / N ∧ -T * Q / P / N ≤ 0) ∧ (T ≤ 0 → 0 ≤ -T * Q / P / N ∧ -T * Q / P / N ≤ -T / 1099511627776):=by
 have l1:=Int.ediv_mul_le (-T * Q) (show P ≠ 0 by omega)
 have l2:=Int.lt_ediv_add_one_mul_self (-T * Q) hP
 generalize -T * Q / P = y at *
 constructor
 ·intro hT
  have a : T * Q * 1099511627776 ≤ T * P:=by
   have:=Int.mul_le_mul_of_nonneg_left hQ2 hT
   rw [Int.mul_assoc]
   exact this
  have y0 : y ≤ 0:=by
   refine Int.not_lt.1 fun h => ?_
   have:=Int.mul_le_mul_of_nonneg_right (show 1 ≤ y by omega) (show 0 ≤ P by omega)
   have:=Int.mul_nonneg hT hQ
   grind
  have ylo : -(T / 1099511627776) - 1 ≤ y:=by
   refine Int.not_lt.1 fun h => ?_
   have b:=Int.mul_le_mul_of_nonneg_right (show y + 1 ≤ -(T / 1099511627776 + 1) by omega) (show 0 ≤ P by omega)
   have c : T + 1 ≤ (T / 1099511627776 + 1) * 1099511627776:=by omega
   have d:=Int.mul_le_mul_of_nonneg_right c (show 0 ≤ P by omega)
   generalize T / 1099511627776 + 1 = z at *
   have e : z * 1099511627776 * P = z * P * 1099511627776:=by grind
   have f : -z * P = -(z * P):=by grind
   have g : -T * Q = -(T * Q):=by grind
   have i : (T + 1) * P = T * P + P:=by grind
   rw [f] at b
   rw [g] at l2
   rw [e, i] at d
   omega
  refine ⟨?_, Int.ediv_nonpos_of_nonpos_of_neg y0 (by omega)⟩
  exact Int.le_trans ylo (Int.le_ediv_of_mul_le (by omega) (by
   have:=Int.mul_le_mul_of_nonpos_left y0 hN
   omega))
 ·intro hT
  have hT2 : 0 ≤ -T:=by omega
  generalize -T = t at *
  have a : t * Q * 1099511627776 ≤ t * P:=by
   have:=Int.mul_le_mul_of_nonneg_left hQ2 hT2
   rw [Int.mul_assoc]
   exact this
  have y0 : 0 ≤ y:=by
   refine Int.not_lt.1 fun h => ?_
   have:=Int.mul_le_mul_of_nonneg_right (show y + 1 ≤ 0 by omega) (show 0 ≤ P by omega)
   have:=Int.mul_nonneg hT2 hQ
   omega
  have yup : y * 1099511627776 ≤ t:=by
   refine Int.le_of_mul_le_mul_right (a:=P) ?_ hP
   have b:=Int.mul_le_mul_of_nonneg_right l1 (show (0 : Int) ≤ 1099511627776 by omega)
   have e : y * 1099511627776 * P = y * P * 1099511627776:=by grind
   omega
  refine ⟨Int.ediv_nonneg y0 (by omega), ?_⟩
  have:=Int.ediv_le_self N y0
  omega
theorem nn2 (j : Nat) : 6 ≤ (2 * (j : Int) + 2) * (2 * (j : Int) + 2 + 1):=by
 have:=Int.mul_le_mul (show (2 : Int) ≤ 2 * (j : Int) + 2 by omega) (show (3 : Int) ≤ 2 * (j : Int) + 2 + 1 by omega) (by omega) (by omega)
 omega
theorem se_small {X Q : Int} {p : Nat} (h : SeX X Q p) (j : Nat) : snT X Q p j = 0 ∨ (2 ≤ (snT X Q p j).natAbs ∧ (snT X Q p j).natAbs * 2 ^ (20 * j) ≤ X.toNat) ∨ ((snT X Q p j).natAbs = 1 ∧ 20 * j ≤ p + 40 ∧ (snT X Q p j = 1 → 20 * j ≤ p + 20)):=by
  have hb:=h.qb
  have hp:=p2_pos p
  have x0:=h.nn
  have xl:=h.lt
  induction j with
  | zero =>
    show X = 0 ∨ (2 ≤ X.natAbs ∧ X.natAbs * 2 ^ 0 ≤ X.toNat) ∨ (X.natAbs = 1 ∧ _ ∧ _)
    omega
  | succ j ih =>
    have s:=se_step (T:=snT X Q p j) (Q:=Q) (P:=2 ^ p) (N:=(2 * (j : Int) + 2) * (2 * (j : Int) + 2 + 1)) hp (by have:=nn2 j; omega) hb.1 hb.2
    obtain ⟨U, hU⟩:=nm9 (snT X Q p (j + 1))
    rw [hU]
    have e : snT X Q p (j + 1) = -(snT X Q p j) * Q / 2 ^ p / ((2 * (j : Int) + 2) * (2 * (j : Int) + 2 + 1)):=rfl
    rw [hU] at e
    rw [← e] at s
    clear e hU
    generalize snT X Q p j = T at *
    rcases ih with ih | ⟨ih1, ih2⟩ | ⟨ih1, ih2, ih3⟩
    · left
      have:=s.2 (by omega)
      omega
    · have hX : X.toNat < 2 ^ p:=by
        have : ((2 ^ p : Nat) : Int) = 2 ^ p:=by push_cast; rfl
        have:=Nat.pow_pos (n:=p) (show 0 < 2 by omega)
        omega
      have hj : 20 * j < p:=by
        refine Nat.lt_of_not_le fun hle => ?_
        have:=Nat.pow_le_pow_right (show 0 < 2 by omega) hle
        have:=Nat.mul_le_mul_right (2 ^ (20 * j)) (show 1 ≤ T.natAbs by omega)
        omega
      by_cases hu : 2 ≤ U.natAbs
      · right; left
        refine ⟨hu, Nat.le_trans ?_ ih2⟩
        rw [show 20 * (j + 1) = 20 + 20 * j by omega, Nat.pow_add, ← Nat.mul_assoc]
        refine Nat.mul_le_mul_right _ ?_
        have : (2 : Nat) ^ 20 = 1048576:=by decide
        rcases Int.le_total 0 T with hT | hT
        · have:=s.1 hT; omega
        · have:=s.2 hT; omega
      · by_cases hz : U = 0
        · left; exact hz
        · right; right
          exact ⟨by omega, by omega, fun _ => by omega⟩
    · by_cases hT : T = 1
      · have:=s.1 (by omega)
        by_cases hz : U = 0
        · left; exact hz
        · right; right
          have:=ih3 hT
          exact ⟨by omega, by omega, fun _ => by omega⟩
      · left
        have:=s.2 (by omega)
        omega
theorem se_ab {X Q : Int} {p : Nat} (h : SeX X Q p) (j : Nat) : (snT X Q p j).natAbs ≤ 2 ^ p:=by
 have x0:=h.nn
 have xl:=h.lt
 have e : ((2 ^ p : Nat) : Int) = 2 ^ p:=by push_cast; rfl
 have:=Nat.pow_pos (n:=p) (show 0 < 2 by omega)
 rcases se_small h j with s | ⟨_, s⟩ | ⟨s, _⟩
 ·omega
 ·have:=Nat.mul_le_mul_left (snT X Q p j).natAbs (Nat.pow_pos (n:=20 * j) (show 0 < 2 by omega))
  omega
 ·omega
theorem se_end {X Q : Int} {p j : Nat} (h : SeX X Q p) (hz : snT X Q p j ≠ 0) : 20 * j ≤ p + 40:=by
 have x0:=h.nn
 have xl:=h.lt
 have e : ((2 ^ p : Nat) : Int) = 2 ^ p:=by push_cast; rfl
 have:=Nat.pow_pos (n:=p) (show 0 < 2 by omega)
 rcases se_small h j with s | ⟨s1, s⟩ | ⟨s, s2, _⟩
 ·exact absurd s hz
 ·have hj : 20 * j < p:=by
   refine Nat.lt_of_not_le fun hle => ?_
   have:=Nat.pow_le_pow_right (show 0 < 2 by omega) hle
   have:=Nat.mul_le_mul_right (2 ^ (20 * j)) (show 1 ≤ (snT X Q p j).natAbs by omega)
   omega
  omega
 ·omega
theorem snS_ab {X Q : Int} {p : Nat} (h : SeX X Q p) (j : Nat) : (snS X Q p j).natAbs ≤ j * 2 ^ p:=by
  induction j with
  | zero => show (0 : Int).natAbs ≤ _; omega
  | succ j ih =>
    have:=se_ab h j
    rw [show snS X Q p (j + 1) = snS X Q p j + snT X Q p j from rfl, Nat.succ_mul]
    omega
def tauQ (j : Nat) (y : Rat) : Rat:=ss (2 * j + 1) * tm (2 * j + 1) y
theorem ss_even (j : Nat) : ss (2 * j) = 0 ∧ (ss (2 * j + 1) = 1 ∨ ss (2 * j + 1) = -1):=by
  induction j with
  | zero => exact ⟨rfl, Or.inl rfl⟩
  | succ j ih =>
    have e1 : ss (2 * j + 2) = -ss (2 * j):=by
      rw [show 2 * j + 2 = (2 * j + 1) + 1 from rfl, ss_succ, sc_succ]
    have e2 : ss (2 * j + 3) = -ss (2 * j + 1):=by
      rw [show 2 * j + 3 = (2 * j + 2) + 1 from rfl, ss_succ, show 2 * j + 2 = (2 * j + 1) + 1 from rfl, sc_succ]
    rw [show 2 * (j + 1) = 2 * j + 2 by omega, show 2 * j + 2 + 1 = 2 * j + 3 from rfl, e1, e2, ih.1]
    refine ⟨by grind, ?_⟩
    rcases ih.2 with h | h <;> rw [h] <;> grind
theorem tau_succ (j : Nat) (y : Rat) : tauQ (j + 1) y * ((((2 * (j : Int) + 2) * (2 * (j : Int) + 2 + 1) : Int)) : Rat) = -tauQ j y * (y * y):=by
 have e2 : ss (2 * (j + 1) + 1) = -ss (2 * j + 1):=by
  rw [show 2 * (j + 1) + 1 = (2 * j + 2) + 1 from by omega, ss_succ, show 2 * j + 2 = (2 * j + 1) + 1 from rfl, sc_succ]
 have m1:=tm_mul (2 * j + 1) y
 have m2:=tm_mul (2 * j + 2) y
 have c1 : ((2 * j + 1 : Nat) : Rat) = 2 * (j : Rat) + 1:=by push_cast; rfl
 have c2 : ((2 * j + 2 : Nat) : Rat) = 2 * (j : Rat) + 2:=by push_cast; rfl
 have c3 : ((((2 * (j : Int) + 2) * (2 * (j : Int) + 2 + 1) : Int)) : Rat) = (2 * (j : Rat) + 2) * (2 * (j : Rat) + 2 + 1):=by push_cast; rfl
 rw [c1] at m1
 rw [c2] at m2
 rw [c3]
 unfold tauQ
 rw [e2, show 2 * (j + 1) + 1 = 2 * j + 2 + 1 by omega]
 have m3 : tm (2 * j + 2) y * (2 * (j : Rat) + 2) = tm (2 * j + 1) y * y:=by
  rw [show 2 * j + 2 = 2 * j + 1 + 1 from rfl]
  grind
 have : tm (2 * j + 2 + 1) y * (2 * (j : Rat) + 2 + 1) * (2 * (j : Rat) + 2) = tm (2 * j + 1) y * y * y:=by rw [m2, ← m3]; grind
 generalize tm (2 * j + 2 + 1) y = a at *
 generalize tm (2 * j + 1) y = b at *
 grind
theorem se_err {t q y2 u τ τ' c b N : Rat} (hu : 0 < u) (hN : 6 ≤ N) (h1 : Ab (t - τ) (2 * u)) (ht : Ab t 1) (q1 : q ≤ y2) (q2 : y2 ≤ q + u) (y0 : 0 ≤ y2) (y1 : y2 ≤ 1 / 16) (b1 : b ≤ -t * q) (b2 : -t * q ≤ b + u) (c1 : c * N ≤ b) (c2 : b ≤ c * N + N * u) (hτ : τ' * N = -τ * y2) : Ab (c - τ') (2 * u):=by
 have a1:=h1.mul (show Ab y2 (1 / 16) by unfold Ab; grind)
 have a2:=ht.mul (show Ab (y2 - q) u by unfold Ab; grind)
 have m:=Rat.mul_le_mul_of_nonneg_right hN (Rat.le_of_lt hu)
 unfold Ab at *
 constructor
 ·refine le_of_mul (c:=N) (by grind) ?_
  grind
 ·refine le_of_mul (c:=N) (by grind) ?_
  grind
theorem int_hn_one (p : Nat) : (((2 : Int) ^ p : Int) : Rat) * hn p = 1:=pow_hn p
theorem cast_abs {T : Int} {p : Nat} (h : T.natAbs ≤ 2 ^ p) : Ab ((T : Rat) * hn p) 1:=by
 have e : ((2 ^ p : Nat) : Int) = 2 ^ p:=by push_cast; rfl
 have a:=int_mul_hn p (show T ≤ 2 ^ p by omega)
 have b:=int_mul_hn p (show -(2 ^ p) ≤ T by omega)
 rw [Rat.intCast_neg] at b
 have:=int_hn_one p
 unfold Ab
 constructor <;> grind
theorem fl_units (a b : Int) (p : Nat) : ((a * b / 2 ^ p : Int) : Rat) * hn p ≤ (a : Rat) * hn p * ((b : Rat) * hn p) ∧ (a : Rat) * hn p * ((b : Rat) * hn p) ≤ ((a * b / 2 ^ p : Int) : Rat) * hn p + hn p:=by
 have hp:=p2_pos p
 have o:=int_hn_one p
 have h0:=hn_pos p
 have l1:=Int.ediv_mul_le (a * b) (show (2 : Int) ^ p ≠ 0 by omega)
 have l2:=Int.le_of_lt (Int.lt_ediv_add_one_mul_self (a * b) hp)
 generalize a * b / 2 ^ p = D at *
 have c1:=int_mul_hn p l1
 have c2:=int_mul_hn p l2
 rw [Rat.intCast_mul, Rat.intCast_mul] at c1
 rw [Rat.intCast_mul, Rat.intCast_mul, Rat.intCast_add, show ((1 : Int) : Rat) = 1 from rfl] at c2
 generalize (((2 : Int) ^ p : Int) : Rat) = P at *
 generalize (a : Rat) = x at *
 generalize (b : Rat) = y at *
 generalize (D : Rat) = d at *
 generalize hn p = u at *
 have d1:=Rat.mul_le_mul_of_nonneg_right c1 (Rat.le_of_lt h0)
 have d2:=Rat.mul_le_mul_of_nonneg_right c2 (Rat.le_of_lt h0)
 have e1 : d * P * u * u = d * u * (P * u):=by grind
 have e2 : (d + 1) * P * u * u = (d + 1) * u * (P * u):=by grind
 rw [e1, o] at d1
 rw [e2, o] at d2
 constructor <;> grind
theorem se_tau {X Q : Int} {p : Nat} (h : SeX X Q p) (j : Nat) : Ab ((snT X Q p j : Rat) * hn p - tauQ j ((X : Rat) * hn p)) (2 * hn p):=by
  have h0:=hn_pos p
  have o:=int_hn_one p
  have xb : 0 ≤ (X : Rat) * hn p ∧ (X : Rat) * hn p ≤ 1 / 4:=by
    have a:=int_mul_hn p h.nn
    have b:=int_mul_hn p h.lt
    rw [Rat.intCast_mul, o] at b
    rw [show ((0 : Int) : Rat) = 0 from rfl] at a
    rw [show ((2147483648 : Int) : Rat) = 2147483648 from rfl] at b
    constructor <;> grind
  induction j with
  | zero =>
    have : tauQ 0 ((X : Rat) * hn p) = (X : Rat) * hn p:=by
      have b:=tm_mul 0 ((X : Rat) * hn p)
      rw [show tm 0 ((X : Rat) * hn p) = 1 from rfl, show ((0 : Nat) : Rat) = 0 from rfl] at b
      show (1 : Rat) * tm 1 ((X : Rat) * hn p) = _
      grind
    rw [this]
    show Ab ((X : Rat) * hn p - (X : Rat) * hn p) _
    unfold Ab
    grind
  | succ j ih =>
    have t1:=cast_abs (se_ab h j)
    have f1:=fl_units X X p
    rw [← h.q] at f1
    have f2:=fl_units (-(snT X Q p j)) Q p
    have n6:=nn2 j
    have s:=tau_succ j ((X : Rat) * hn p)
    have e : snT X Q p (j + 1) = -(snT X Q p j) * Q / 2 ^ p / ((2 * (j : Int) + 2) * (2 * (j : Int) + 2 + 1)):=rfl
    obtain ⟨N, hN⟩:=nm9 ((2 * (j : Int) + 2) * (2 * (j : Int) + 2 + 1))
    rw [hN] at n6 s e
    rw [e]
    generalize -(snT X Q p j) * Q / 2 ^ p = B at *
    have g1:=int_mul_hn p (Int.ediv_mul_le B (show N ≠ 0 by omega))
    have g2:=int_mul_hn p (Int.le_of_lt (Int.lt_ediv_add_one_mul_self B (show 0 < N by omega)))
    generalize B / N = C at *
    rw [Rat.intCast_mul] at g1
    rw [Rat.intCast_mul, Rat.intCast_add, show ((1 : Int) : Rat) = 1 from rfl] at g2
    rw [Rat.intCast_neg] at f2
    have N6 : (6 : Rat) ≤ (N : Rat):=by exact_mod_cast n6
    have yy:=(show Ab ((X : Rat) * hn p) (1 / 4) by unfold Ab; grind).mul (show Ab ((X : Rat) * hn p) (1 / 4) by unfold Ab; grind)
    refine se_err (t:=(snT X Q p j : Rat) * hn p) (q:=(Q : Rat) * hn p) (y2:=(X : Rat) * hn p * ((X : Rat) * hn p)) (b:=(B : Rat) * hn p) (N:=(N : Rat)) h0 N6 ih t1 f1.1 (by grind) (rsq_nn _) (by unfold Ab at yy; grind) (by grind) (by grind) (by grind) (by grind) s
theorem se_sum {X Q : Int} {p : Nat} (h : SeX X Q p) (n : Nat) : Ab ((snS X Q p n : Rat) * hn p - tS (2 * n) ((X : Rat) * hn p)) (2 * (n : Rat) * hn p):=by
  induction n with
  | zero =>
    rw [show ((0 : Nat) : Rat) = 0 from rfl]
    show Ab (((0 : Int) : Rat) * hn p - 0) _
    rw [show ((0 : Int) : Rat) = 0 from rfl]
    unfold Ab
    grind
  | succ n ih =>
    have a:=ih.add (se_tau h n)
    have e1 : tS (2 * (n + 1)) ((X : Rat) * hn p) = tS (2 * n) ((X : Rat) * hn p) + ss (2 * n) * tm (2 * n) ((X : Rat) * hn p) + ss (2 * n + 1) * tm (2 * n + 1) ((X : Rat) * hn p):=rfl
    rw [e1, (ss_even n).1, show snS X Q p (n + 1) = snS X Q p n + snT X Q p n from rfl, Rat.intCast_add]
    have e2 : ((n + 1 : Nat) : Rat) = (n : Rat) + 1:=by push_cast; rfl
    rw [e2]
    unfold tauQ at a
    unfold Ab at *
    constructor <;> grind
theorem se_sine {X Q : Int} {p n : Nat} (h : SeX X Q p) (hn0 : snT X Q p n = 0) (hn15 : n ≤ 15) (hp : p ≤ 300) : Ab ((snS X Q p n : Rat) * hn p - sinQ ((X : Rat) * hn p)) (34 * hn p):=by
 have h0:=hn_pos p
 have o:=int_hn_one p
 have b:=small_units hp
 have e0:=eta_pos
 have t:=se_tau h n
 have s:=se_sum h n
 rw [hn0, show ((0 : Int) : Rat) = 0 from rfl] at t
 have xb : Ab ((X : Rat) * hn p) (1 / 4):=by
  have a:=int_mul_hn p h.nn
  have b:=int_mul_hn p h.lt
  rw [Rat.intCast_mul, o] at b
  rw [show ((0 : Int) : Rat) = 0 from rfl] at a
  rw [show ((2147483648 : Int) : Rat) = 2147483648 from rfl] at b
  unfold Ab
  constructor <;> grind
 have tt : Ab (tm (2 * n + 1) ((X : Rat) * hn p)) (2 * hn p):=by
  unfold tauQ at t
  unfold Ab at *
  rcases (ss_even n).2 with e | e <;> rw [e] at t <;> constructor <;> grind
 have r:=(ser xb (show 2 * n + 1 ≤ 2001 by omega) tt).2
 have e1 : tS (2 * n + 1) ((X : Rat) * hn p) = tS (2 * n) ((X : Rat) * hn p) + ss (2 * n) * tm (2 * n) ((X : Rat) * hn p):=rfl
 rw [e1, (ss_even n).1] at r
 have nr : (n : Rat) ≤ 15:=by exact_mod_cast hn15
 have nm:=Rat.mul_le_mul_of_nonneg_right nr (Rat.le_of_lt h0)
 have fin:=s.add r
 have q:=b.1
 clear b tt t e1 xb e0 hn0 h
 generalize eta = et at *
 generalize sinQ ((X : Rat) * hn p) = z at *
 generalize tS (2 * n) ((X : Rat) * hn p) = zz at *
 generalize (snS X Q p n : Rat) = sm at *
 generalize hn p = u at *
 clear hp o hn15 nr
 generalize (n : Rat) = nn at *
 unfold Ab at *
 constructor <;> grind
def triI (p : Nat) (S : Int) : Int:=S * (3 * 2 ^ p - S * S / 2 ^ p * 4) / 2 ^ p
def ebI : Nat → Int
 | 0 => 34
 | i + 1 => 3 * ebI i + 7
theorem eb_le {i : Nat} (h : i ≤ 20) : 0 ≤ ebI i ∧ ebI i ≤ 131000000000:=by
 have : ∀ i, i ≤ 20 → 0 ≤ ebI i ∧ ebI i ≤ 131000000000:=by decide +kernel
 exact this i h
theorem si_third {a : Rat} (h : Ab a (3 / 8)) : Ab (sinQ a) (3 / 5):=by
 have e0:=eta_pos
 have e1:=eta_small
 have big:=two_big
 have a3 : Ab (a / 3) (1 / 8):=by
  have : a / 3 * 3 = a:=Rat.div_mul_cancel (by decide)
  unfold Ab at *
  constructor <;> grind
 have s:=(si_small a3 (by grind)).2
 have t:=tri_si (x:=a / 3) (by unfold Ab at *; constructor <;> grind)
 rw [show 3 * (a / 3) = a by have : a / 3 * 3 = a:=Rat.div_mul_cancel (by decide); grind] at t
 have s1 : Ab (sinQ (a / 3)) (17 / 100):=s.le (by grind)
 have c:=s1.mul s1
 have d:=c.mul s1
 have f:=(((s1.add (s1.add s1)).sub (d.add (d.add (d.add d)))).sub t)
 generalize sinQ (a / 3) = z at *
 generalize sinQ a = v at *
 rw [show z + (z + z) - (z * z * z + (z * z * z + (z * z * z + z * z * z))) - (3 * z - 4 * (z * z * z) - v) = v by grind] at f
 exact f.le (by grind)
theorem tri_err {S : Int} {p : Nat} {a : Rat} {E : Int} (hE0 : 0 ≤ E) (hE : E ≤ 131000000000) (hp : p ≤ 300) (hp2 : 64 ≤ p) (h : Ab ((S : Rat) * hn p - sinQ a) ((E : Rat) * hn p)) (ha : Ab a (3 / 8)) : Ab ((triI p S : Rat) * hn p - sinQ (3 * a)) (((3 * E + 7 : Int) : Rat) * hn p):=by
 have h0:=hn_pos p
 have o:=int_hn_one p
 have b:=small_units hp
 have e0:=eta_pos
 have big:=two_big
 have s3:=si_third ha
 have t:=tri_si (x:=a) (by unfold Ab at *; constructor <;> grind)
 have hsm : 131000000000 * hn p ≤ 1 / 100:=by
  have:=hn_le hp2
  have : 13100000000000 * hn 64 ≤ 1:=by decide +kernel
  grind
 have Er : (E : Rat) ≤ 131000000000:=Rat.intCast_le_intCast.2 hE
 have Er0 : (0 : Rat) ≤ (E : Rat):=Rat.intCast_le_intCast.2 hE0
 have Eu:=Rat.mul_le_mul_of_nonneg_right Er (Rat.le_of_lt h0)
 have f1:=fl_units S S p
 have f2:=fl_units S (3 * 2 ^ p - S * S / 2 ^ p * 4) p
 have e1 : ((3 * 2 ^ p - S * S / 2 ^ p * 4 : Int) : Rat) * hn p = 3 - 4 * (((S * S / 2 ^ p : Int) : Rat) * hn p):=by
  rw [Rat.intCast_sub, Rat.intCast_mul, Rat.intCast_mul, show ((3 : Int) : Rat) = 3 from rfl, show ((4 : Int) : Rat) = 4 from rfl]
  grind
 rw [e1] at f2
 have e2 : ((3 * E + 7 : Int) : Rat) * hn p = 3 * ((E : Rat) * hn p) + 7 * hn p:=by
  rw [Rat.intCast_add, Rat.intCast_mul, show ((3 : Int) : Rat) = 3 from rfl, show ((7 : Int) : Rat) = 7 from rfl]
  grind
 rw [e2]
 unfold triI
 generalize ((S * (3 * 2 ^ p - S * S / 2 ^ p * 4) / 2 ^ p : Int) : Rat) = R at *
 generalize ((S * S / 2 ^ p : Int) : Rat) = D at *
 generalize (S : Rat) = s at *
 generalize sinQ a = z at *
 generalize sinQ (3 * a) = z3 at *
 generalize (E : Rat) = e at *
 have q:=b.1
 have sz : Ab (s * hn p) (61 / 100):=by
  unfold Ab at *
  constructor <;> grind
 generalize hn p = u at *
 generalize eta = et at *
 clear b
 -- the difference of the cubes
 generalize s * u = x at *
 have fac : Ab (3 - 4 * (x * x + x * z + z * z)) 3:=by
  have m1:=(sz.mul sz).le (c:=2 / 5) (by decide +kernel)
  have m2:=(sz.mul s3).le (c:=2 / 5) (by decide +kernel)
  have m3:=(s3.mul s3).le (c:=2 / 5) (by decide +kernel)
  have n1:=rsq_nn (x + z)
  have n2:=rsq_nn x
  have n3:=rsq_nn z
  unfold Ab at *
  constructor <;> grind
 have m:=h.mul fac
 have rr:=(sz.mul (show Ab (x * x - D * u) u by unfold Ab; grind)).le (c:=u) (by
  have : (61 / 100 : Rat) ≤ 1:=by decide +kernel
  have:=Rat.mul_le_mul_of_nonneg_right this (Rat.le_of_lt h0)
  grind)
 have k1 : Ab (R * u - x * (3 - 4 * (D * u))) u:=by unfold Ab; grind
 have f3:=(((k1.add m).add (rr.add (rr.add (rr.add rr))))).add t
 rw [show R * u - x * (3 - 4 * (D * u)) + (x - z) * (3 - 4 * (x * x + x * z + z * z)) + (x * (x * x - D * u) + (x * (x * x - D * u) + (x * (x * x - D * u) + x * (x * x - D * u)))) + (3 * z - 4 * (z * z * z) - z3) = R * u - z3 by grind] at f3
 exact f3.le (by grind)
structure SiV (p : Nat) (Y V : Int) : Prop where
 er : Ab ((V : Rat) * hn p - sinQ ((Y : Rat) * hn p)) (140000000000 * hn p)
 ab : V.natAbs ≤ 2 ^ (p + 1)
theorem SiV.neg {p : Nat} {Y V : Int} (h : SiV p (-Y) V) : SiV p Y (-V):=by
 refine ⟨?_, by have:=h.ab; omega⟩
 have:=h.er.neg
 rw [Rat.intCast_neg] at this ⊢
 rw [show -(Y : Rat) * hn p = -((Y : Rat) * hn p) by grind, si_neg] at this
 rw [show -(V : Rat) * hn p - sinQ ((Y : Rat) * hn p) = -((V : Rat) * hn p - -sinQ ((Y : Rat) * hn p)) by grind]
 exact this
structure TrI (p : Nat) (X : Int) (i : Nat) (S : Int) : Prop where
 le : i ≤ 20
 er : Ab ((S : Rat) * hn p - sinQ (rp 3 i * ((X : Rat) * hn p))) ((ebI i : Rat) * hn p)
 ab : S.natAbs ≤ 2 ^ (p + 1)
theorem rp3_20 : rp 3 20 = 3486784401:=by decide +kernel
theorem rp3_le {i : Nat} (h : i ≤ 19) : 0 ≤ rp 3 i ∧ rp 3 i * 3 ≤ 3486784401:=by
 have : ∀ i, i ≤ 19 → 0 ≤ rp 3 i ∧ rp 3 i * 3 ≤ 3486784401:=by decide +kernel
 exact this i h
theorem ab_of_near {S : Int} {p : Nat} {z e : Rat} (h : Ab ((S : Rat) * hn p - z) e) (hz : Ab z (3 / 2)) (he : e ≤ 1 / 2) : S.natAbs ≤ 2 ^ (p + 1):=by
 have o:=int_hn_one p
 have e2 : ((2 ^ (p + 1) : Int) : Rat) * hn p = 2:=by
  rw [Int.pow_succ, Rat.intCast_mul, show ((2 : Int) : Rat) = 2 from rfl]
  grind
 have ep : ((2 ^ (p + 1) : Nat) : Int) = 2 ^ (p + 1):=by push_cast; rfl
 have a : S ≤ 2 ^ (p + 1):=int_of_hn p (by rw [e2]; unfold Ab at *; grind)
 have b : -(2 ^ (p + 1)) ≤ S:=int_of_hn p (by rw [Rat.intCast_neg, show -((2 ^ (p + 1) : Int) : Rat) * hn p = -(((2 ^ (p + 1) : Int) : Rat) * hn p) by grind, e2]; unfold Ab at *; grind)
 omega
theorem units_small {p : Nat} (hp2 : 64 ≤ p) : 10000000000000 * hn p ≤ 1 / 100000:=by
 have:=hn_le hp2
 have : 1000000000000000000 * hn 64 ≤ 1:=by decide +kernel
 grind
theorem div_third {Y : Int} {p : Nat} (h0 : 0 ≤ Y) (h1 : Y ≤ 2 ^ p) : SeX (Y / 3486784401) (Y / 3486784401 * (Y / 3486784401) / 2 ^ p) p:=by
 refine ⟨Int.ediv_nonneg h0 (by omega), ?_, rfl⟩
 generalize (2 : Int) ^ p = P at *
 omega
theorem TrI.first {p n : Nat} {X : Int} (h : SeX X (X * X / 2 ^ p) p) (hz : snT X (X * X / 2 ^ p) p n = 0) (hn15 : n ≤ 15) (hp : p ≤ 300) (hp2 : 64 ≤ p) : TrI p X 0 (snS X (X * X / 2 ^ p) p n):=by
 have a:=se_sine h hz hn15 hp
 have us:=units_small hp2
 have h0:=hn_pos p
 have o:=int_hn_one p
 have xb : Ab ((X : Rat) * hn p) (1 / 4):=by
  have a:=int_mul_hn p h.nn
  have b:=int_mul_hn p h.lt
  rw [Rat.intCast_mul, o] at b
  rw [show ((0 : Int) : Rat) = 0 from rfl] at a
  rw [show ((2147483648 : Int) : Rat) = 2147483648 from rfl] at b
  unfold Ab
  constructor <;> grind
 have big:=two_big
 have e1:=eta_small
 have s:=si_ab (dbl_big (xb.le (c:=bigQ) (by grind)))
 refine ⟨by omega, ?_, ab_of_near a (s.le (by grind)) (by grind)⟩
 rw [show rp 3 0 * ((X : Rat) * hn p) = (X : Rat) * hn p by show 1 * _ = _; grind, show ebI 0 = 34 from rfl, show ((34 : Int) : Rat) = 34 from rfl]
 exact a
theorem TrI.step {p i : Nat} {Y S : Int} (h : TrI p (Y / 3486784401) i S) (hi : i ≤ 19) (h0 : 0 ≤ Y) (h1 : Y ≤ 2 ^ p) (hp : p ≤ 300) (hp2 : 64 ≤ p) : TrI p (Y / 3486784401) (i + 1) (triI p S):=by
 have us:=units_small hp2
 have hh:=hn_pos p
 have o:=int_hn_one p
 have eb:=eb_le (show i ≤ 20 by omega)
 have eb2:=eb_le (show i + 1 ≤ 20 by omega)
 have r3:=rp3_le hi
 have xb : 0 ≤ ((Y / 3486784401 : Int) : Rat) * hn p ∧ 3486784401 * (((Y / 3486784401 : Int) : Rat) * hn p) ≤ 1:=by
  have a:=int_mul_hn p (show (0 : Int) ≤ Y / 3486784401 by omega)
  have b:=int_mul_hn p (show Y / 3486784401 * 3486784401 ≤ 2 ^ p by omega)
  rw [Rat.intCast_mul, o] at b
  rw [show ((0 : Int) : Rat) = 0 from rfl] at a
  rw [show ((3486784401 : Int) : Rat) = 3486784401 from rfl] at b
  constructor <;> grind
 obtain ⟨x, hx⟩:=nm9 (((Y / 3486784401 : Int) : Rat) * hn p)
 have her:=h.er
 rw [hx] at xb her
 have ax : Ab (rp 3 i * x) (3 / 8):=by
  have m1:=Rat.mul_nonneg r3.1 xb.1
  have m2:=Rat.mul_le_mul_of_nonneg_right r3.2 xb.1
  have : (1 : Rat) / 3 ≤ 3 / 8:=by decide +kernel
  unfold Ab
  constructor <;> grind
 have t:=tri_err eb.1 eb.2 hp hp2 her ax
 have e3 : 3 * (rp 3 i * x) = rp 3 (i + 1) * x:=by show _ = rp 3 i * 3 * x; grind
 rw [e3, show 3 * ebI i + 7 = ebI (i + 1) from rfl] at t
 have eu : (ebI (i + 1) : Rat) * hn p ≤ 131000000000 * hn p:=by
  have:=int_mul_hn p eb2.2
  rwa [show ((131000000000 : Int) : Rat) = 131000000000 from rfl] at this
 have big:=two_big
 have e1:=eta_small
 have s:=si_ab (x:=rp 3 (i + 1) * x) (by
  rw [← e3]
  unfold Ab at *
  constructor <;> grind)
 refine ⟨by omega, by rw [hx]; exact t, ab_of_near t (s.le (by grind)) (by grind)⟩
theorem TrI.last {p : Nat} {Y S : Int} (h : TrI p (Y / 3486784401) 20 S) (h0 : 0 ≤ Y) (h1 : Y ≤ 2 ^ p) (hp : p ≤ 300) (hp2 : 64 ≤ p) : SiV p Y S:=by
 have us:=units_small hp2
 have hh:=hn_pos p
 have o:=int_hn_one p
 have eb:=eb_le (show 20 ≤ 20 by omega)
 have b:=small_units hp
 refine ⟨?_, h.ab⟩
 have a:=int_mul_hn p (show Y / 3486784401 * 3486784401 ≤ Y by omega)
 have c:=int_mul_hn p (show Y ≤ Y / 3486784401 * 3486784401 + 3486784401 by omega)
 have d:=int_mul_hn p h1
 have d0:=int_mul_hn p (show 0 ≤ Y / 3486784401 by omega)
 rw [o] at d
 rw [Rat.intCast_mul, show ((3486784401 : Int) : Rat) = 3486784401 from rfl] at a
 rw [Rat.intCast_add, Rat.intCast_mul, show ((3486784401 : Int) : Rat) = 3486784401 from rfl] at c
 rw [show ((0 : Int) : Rat) = 0 from rfl] at d0
 have her:=h.er
 rw [rp3_20] at her
 have eu : (ebI 20 : Rat) * hn p ≤ 131000000000 * hn p:=by
  have:=int_mul_hn p eb.2
  rwa [show ((131000000000 : Int) : Rat) = 131000000000 from rfl] at this
 have big:=two_big
 have l:=lip (y:=3486784401 * (((Y / 3486784401 : Int) : Rat) * hn p)) (u:=(Y : Rat) * hn p - 3486784401 * (((Y / 3486784401 : Int) : Rat) * hn p)) (U:=3486784401 * hn p) (by unfold Ab; constructor <;> grind) (by unfold Ab; constructor <;> grind) (by grind)
 rw [show 3486784401 * (((Y / 3486784401 : Int) : Rat) * hn p) + ((Y : Rat) * hn p - 3486784401 * (((Y / 3486784401 : Int) : Rat) * hn p)) = (Y : Rat) * hn p by grind] at l
 have m:=her.sub l.2
 rw [show (S : Rat) * hn p - sinQ (3486784401 * (((Y / 3486784401 : Int) : Rat) * hn p)) - (sinQ ((Y : Rat) * hn p) - sinQ (3486784401 * (((Y / 3486784401 : Int) : Rat) * hn p))) = (S : Rat) * hn p - sinQ ((Y : Rat) * hn p) by grind] at m
 exact m.le (by grind)
structure CoV (p : Nat) (Y V : Int) : Prop where
 er : Ab ((V : Rat) * hn p - cosQ ((Y : Rat) * hn p)) (600000000000 * hn p)
 ab : V.natAbs ≤ 2 ^ (p + 1)
theorem CoV.of {p : Nat} {Y S : Int} (h : SiV p (Y / 2) S) (h0 : Y.natAbs ≤ 2 ^ p) (hp : p ≤ 300) (hp2 : 64 ≤ p) : CoV p Y (2 ^ p - S * S / 2 ^ p * 2):=by
 have us:=units_small hp2
 have hh:=hn_pos p
 have o:=int_hn_one p
 have b:=small_units hp
 have big:=two_big
 have e1:=eta_small
 have ya:=cast_abs h0
 have a:=int_mul_hn p (show Y / 2 * 2 ≤ Y by omega)
 have c:=int_mul_hn p (show Y ≤ Y / 2 * 2 + 1 by omega)
 rw [Rat.intCast_mul, show ((2 : Int) : Rat) = 2 from rfl] at a
 rw [Rat.intCast_add, Rat.intCast_mul, show ((2 : Int) : Rat) = 2 from rfl, show ((1 : Int) : Rat) = 1 from rfl] at c
 obtain ⟨H, hH⟩:=nm9 (((Y / 2 : Int) : Rat) * hn p)
 have her:=h.er
 rw [hH] at her
 have yH : Ab H bigQ:=by unfold Ab at *; constructor <;> grind
 have l:=(lip (y:=2 * H) (u:=(Y : Rat) * hn p - 2 * H) (U:=hn p) (by unfold Ab at *; constructor <;> grind) (by unfold Ab; constructor <;> grind) (by grind)).1
 rw [show 2 * H + ((Y : Rat) * hn p - 2 * H) = (Y : Rat) * hn p by grind] at l
 have d:=(dbl_cs yH).1
 have s:=(si_ab (dbl_big yH)).le (c:=101 / 100) (by
  have : (1 : Rat) + 1 / 1000000 ≤ 101 / 100:=by decide +kernel
  grind)
 have f:=fl_units S S p
 have cY:=(co_ab (dbl_big (ya.le (c:=bigQ) (by grind)))).le (c:=3 / 2) (by grind)
 have e2 : ((2 ^ p - S * S / 2 ^ p * 2 : Int) : Rat) * hn p = 1 - 2 * (((S * S / 2 ^ p : Int) : Rat) * hn p):=by
  rw [Rat.intCast_sub, Rat.intCast_mul, show ((2 : Int) : Rat) = 2 from rfl]
  grind
 have er : Ab (((2 ^ p - S * S / 2 ^ p * 2 : Int) : Rat) * hn p - cosQ ((Y : Rat) * hn p)) (600000000000 * hn p):=by
  rw [e2]
  clear cY e2 e1 hH a c ya yH
  generalize ((S * S / 2 ^ p : Int) : Rat) = D at *
  generalize (S : Rat) = s9 at *
  generalize sinQ H = z at *
  generalize cosQ (2 * H) = c2 at *
  generalize cosQ ((Y : Rat) * hn p) = cy at *
  have q:=b.1
  clear b
  generalize hn p = u at *
  generalize eta = et at *
  generalize s9 * u = x at *
  have xz : Ab (x + z) (21 / 10):=by
   have:=(s.add s).add her
   rw [show z + z + (x - z) = x + z by grind] at this
   refine this.le ?_
   have : (101 : Rat) / 100 + 101 / 100 + 1 / 100000 ≤ 21 / 10:=by decide +kernel
   grind
  have m:=(her.mul xz).le (c:=294000000000 * u) (by grind)
  have k:=(((d.sub (m.add m)).sub l)).add (show Ab (2 * (x * x - D * u)) (2 * u) by unfold Ab; grind)
  rw [show 1 - 2 * (z * z) - c2 - ((x - z) * (x + z) + (x - z) * (x + z)) - (cy - c2) + 2 * (x * x - D * u) = 1 - 2 * (D * u) - cy by grind] at k
  exact k.le (by grind)
 exact ⟨er, ab_of_near er cY (by grind)⟩
theorem se_fl {X Q : Int} {p : Nat} (h : SeX X Q p) (j : Nat) : (-(snT X Q p j) * Q / 2 ^ p).natAbs ≤ 2 ^ p:=by
 have hb:=h.qb
 have hp:=p2_pos p
 have a:=se_ab h j
 have e : ((2 ^ p : Nat) : Int) = 2 ^ p:=by push_cast; rfl
 have s:=se_step (T:=snT X Q p j) (Q:=Q) (P:=2 ^ p) (N:=1) hp (by omega) hb.1 hb.2
 simp only [Int.ediv_one] at s
 generalize -(snT X Q p j) * Q / 2 ^ p = y at *
 generalize snT X Q p j = T at *
 rcases Int.le_total 0 T with hT | hT
 ·have:=s.1 hT; omega
 ·have:=s.2 hT; omega
theorem snT_succ (X Q : Int) (p j : Nat) : snT X Q p (j + 1) = -(snT X Q p j) * Q / 2 ^ p / ((2 * (j : Int) + 2) * (2 * (j : Int) + 2 + 1)):=rfl
theorem snS_succ (X Q : Int) (p j : Nat) : snS X Q p (j + 1) = snS X Q p j + snT X Q p j:=rfl
theorem sn_stop {X Q : Int} {p j : Nat} (h : snT X Q p j = 0) (d : Nat) : snT X Q p (j + d) = 0 ∧ snS X Q p (j + d) = snS X Q p j:=by
  induction d with
  | zero => exact ⟨h, rfl⟩
  | succ d ih =>
    rw [show j + (d + 1) = (j + d) + 1 from rfl, snT_succ, snS_succ, ih.1, ih.2]
    simp
theorem sn_last {X Q : Int} {p j : Nat} (h : snT X Q p j = 0) (hj : j ≤ 15) : snS X Q p 15 = snS X Q p j:=by
 have:=(sn_stop h (15 - j)).2
 rwa [show j + (15 - j) = 15 by omega] at this
theorem sn_15 {X Q : Int} {p : Nat} (h : SeX X Q p) (hp : p ≤ 240) : snT X Q p 15 = 0:=by
 refine Decidable.byContradiction fun hz => ?_
 have:=se_end h hz
 omega
def trN (p : Nat) (S : Int) : Nat → Int
 | 0 => S
 | i + 1 => triI p (trN p S i)
def siS (p : Nat) (Y : Int) : Int:=snS (Y / 3486784401) (Y / 3486784401 * (Y / 3486784401) / 2 ^ p) p 15
def siP (p : Nat) (Y : Int) : Int:=trN p (siS p Y) 20
def siI (p : Nat) (Y : Int) : Int:=if Y < 0 then -siP p (-Y) else siP p Y
def coI (p : Nat) (Y : Int) : Int:=2 ^ p - siI p (Y / 2) * siI p (Y / 2) / 2 ^ p * 2
theorem tr_ok {p : Nat} {Y : Int} (h0 : 0 ≤ Y) (h1 : Y ≤ 2 ^ p) (hp : p ≤ 240) (hp2 : 64 ≤ p) : ∀ i, i ≤ 20 → TrI p (Y / 3486784401) i (trN p (siS p Y) i):=fun i => by
  induction i with
  | zero =>
    intro _
    have hX:=div_third h0 h1
    exact TrI.first hX (sn_15 hX hp) (by omega) (by omega) hp2
  | succ i ih => exact fun hi => (ih (by omega)).step (by omega) h0 h1 (by omega) hp2
theorem siP_ok {p : Nat} {Y : Int} (h0 : 0 ≤ Y) (h1 : Y ≤ 2 ^ p) (hp : p ≤ 240) (hp2 : 64 ≤ p) : SiV p Y (siP p Y):=
 (tr_ok h0 h1 hp hp2 20 (by omega)).last h0 h1 (by omega) hp2
theorem siI_ok {p : Nat} {Y : Int} (h1 : Y.natAbs ≤ 2 ^ p) (hp : p ≤ 240) (hp2 : 64 ≤ p) : SiV p Y (siI p Y):=by
 have e : ((2 ^ p : Nat) : Int) = 2 ^ p:=by push_cast; rfl
 unfold siI
 split
 ·exact (siP_ok (by omega) (by omega) hp hp2).neg
 ·exact siP_ok (by omega) (by omega) hp hp2
theorem coI_ok {p : Nat} {Y : Int} (h1 : Y.natAbs ≤ 2 ^ p) (hp : p ≤ 240) (hp2 : 64 ≤ p) : CoV p Y (coI p Y):=
 CoV.of (siI_ok (Nat.le_trans (Int.natAbs_ediv_le_natAbs _ _) h1) hp hp2) h1 (by omega) hp2
def diI (p : Nat) (t R : Int) : Int:=if t % 4 = 0 then siI p R else if t % 4 = 1 then coI p R else if t % 4 = 2 then -siI p R else -coI p R
theorem diI_ok {p : Nat} (t : Int) {R : Int} (h1 : R.natAbs ≤ 2 ^ p) (hp : p ≤ 240) (hp2 : 64 ≤ p) : Va p t R (diI p t R) ∧ (diI p t R).natAbs ≤ 2 ^ (p + 1):=by
 have s:=siI_ok h1 hp hp2
 have c:=coI_ok h1 hp hp2
 have h0:=hn_pos p
 have se:=s.er.le (c:=1900000000000 * hn p) (by grind)
 have ce:=c.er.le (c:=1900000000000 * hn p) (by grind)
 have sa:=s.ab
 have ca:=c.ab
 have ng : ∀ (v : Int) (z : Rat), Ab ((v : Rat) * hn p - z) (1900000000000 * hn p) → Ab (((-v : Int) : Rat) * hn p - -z) (1900000000000 * hn p):=fun v z h => by
  rw [Rat.intCast_neg, show -(v : Rat) * hn p - -z = -((v : Rat) * hn p - z) by grind]
  exact h.neg
 unfold Va diI rts
 obtain h | h | h | h : t % 4 = 0 ∨ t % 4 = 1 ∨ t % 4 = 2 ∨ t % 4 = 3:=by omega
 ·simp only [h, if_true]; exact ⟨se, sa⟩
 ·simp only [h, if_true, show ¬ ((1 : Int) = 0) by omega, if_false]; exact ⟨ce, ca⟩
 ·simp only [h, if_true, show ¬ ((2 : Int) = 0) by omega, show ¬ ((2 : Int) = 1) by omega, if_false]; exact ⟨ng _ _ se, by omega⟩
 ·simp only [h, show ¬ ((3 : Int) = 0) by omega, show ¬ ((3 : Int) = 1) by omega, show ¬ ((3 : Int) = 2) by omega, if_false]; exact ⟨ng _ _ ce, by omega⟩
theorem dv_neg9 {m e : Int} (h : Dv m e) : Dv (-m) e:=by
 rcases h with ⟨h1, h2⟩ | ⟨h1, h2⟩
 ·exact Or.inl ⟨by omega, h2⟩
 ·refine Or.inr ⟨by omega, ?_⟩
  unfold fits8 at *
  rwa [Int.natAbs_neg]
theorem nx_neg9 {Z x : Int} {j : Nat} (h : AbP Z j) (hj : j ≤ 3000) (hx : -6000 ≤ x ∧ x ≤ 100) : mkM (-Z) x = -(mkM Z x) ∧ mkE (-Z) x = mkE Z x:=by
 obtain ⟨a1, _, _, a4, a5⟩:=nx (x:=x) h (by omega) (by omega)
 obtain ⟨b1, _, _, b4, b5⟩:=nx (x:=x) h.neg (by omega) (by omega)
 exact dv_uniq b4 (dv_neg9 a4) (by rw [b5, dq_neg, dq_neg, a5])
theorem tri_ab {S : Int} {p : Nat} (h : S.natAbs ≤ 2 ^ (p + 1)) : AbP (S * S / 2 ^ p) (p + 2) ∧ AbP (S * S / 2 ^ p * 4) (p + 4) ∧ AbP (3 * 2 ^ p - S * S / 2 ^ p * 4) (p + 5) ∧ AbP (triI p S) (p + 6):=by
  have e : ((2 ^ p : Nat) : Int) = 2 ^ p:=by push_cast; rfl
  have hp:=p2_pos p
  have e1 : (2 : Nat) ^ (p + 1) = 2 * 2 ^ p:=by rw [Nat.pow_succ]; omega
  have fl : ∀ (a b : Int) (k l : Nat), a.natAbs ≤ k * 2 ^ p → b.natAbs ≤ l * 2 ^ p → (a * b / 2 ^ p).natAbs ≤ k * l * 2 ^ p:=fun a b k l ha hb => by
    have m:=Nat.mul_le_mul ha hb
    rw [← Int.natAbs_mul] at m
    have m2 : (a * b).natAbs ≤ (k * l * 2 ^ p) * 2 ^ p:=by
      rw [show k * l * 2 ^ p * 2 ^ p = k * 2 ^ p * (l * 2 ^ p) by grind]
      exact m
    obtain ⟨z, hz⟩:=nm9 (a * b)
    rw [hz] at m2 ⊢
    obtain ⟨Z, hZ⟩ : ∃ Z : Nat, Z = k * l * 2 ^ p:=⟨_, rfl⟩
    rw [← hZ] at m2 ⊢
    have t7 : ((Z * 2 ^ p : Nat) : Int) = (Z : Int) * ((2 ^ p : Nat) : Int):=by push_cast; rfl
    have t8 : -(Z : Int) * ((2 ^ p : Nat) : Int) = -((Z : Int) * ((2 ^ p : Nat) : Int)):=by grind
    have lo : -(Z : Int) ≤ z / 2 ^ p:=Int.le_ediv_of_mul_le hp (by rw [← e]; omega)
    have hi : z / 2 ^ p ≤ (Z : Int):=Int.ediv_le_of_le_mul hp (by rw [← e]; omega)
    omega
  have a:=fl S S 2 2 (by omega) (by omega)
  have q2 : (2 : Nat) ^ (p + 2) = 4 * 2 ^ p:=by rw [Nat.pow_add]; omega
  have q4 : (2 : Nat) ^ (p + 4) = 16 * 2 ^ p:=by rw [Nat.pow_add]; omega
  have q5 : (2 : Nat) ^ (p + 5) = 32 * 2 ^ p:=by rw [Nat.pow_add]; omega
  have q6 : (2 : Nat) ^ (p + 6) = 64 * 2 ^ p:=by rw [Nat.pow_add]; omega
  have b:=fl S (3 * 2 ^ p - S * S / 2 ^ p * 4) 2 19 (by omega) (by omega)
  unfold AbP triI
  rw [q2, q4, q5, q6]
  refine ⟨by omega, by omega, by omega, by omega⟩
theorem nx_shl2 {s : Int} {p j : Nat} {k : Int} (h : AbP s j) (hj : j ≤ 2000) (hk : 0 ≤ k ∧ k ≤ 100) (hp : p ≤ 2000) : mkR (mkM s (-(p : Int))) (mkE s (-(p : Int)) + k) = 0 ∧ mkM (mkM s (-(p : Int))) (mkE s (-(p : Int)) + k) = mkM (s * 2 ^ k.toNat) (-(p : Int)) ∧ mkE (mkM s (-(p : Int))) (mkE s (-(p : Int)) + k) = mkE (s * 2 ^ k.toNat) (-(p : Int)):=by
 have:=nx_shl (k:=k.toNat) h hj (by omega) hp
 rwa [show ((k.toNat : Nat) : Int) = k by omega] at this
theorem np_int (n : Int) {p j : Nat} (hn : n.natAbs ≤ 2 ^ j) (hj : j ≤ 60) (hp : p ≤ 2000) : mkM n 0 = mkM (n * 2 ^ p) (-(p : Int)) ∧ mkE n 0 = mkE (n * 2 ^ p) (-(p : Int)):=by
 have a : AbP n j:=hn
 have b : AbP (n * 2 ^ p) (j + p):=AbP.mul a (by unfold AbP; rw [Int.natAbs_pow]; exact Nat.le_refl _)
 obtain ⟨r1, _⟩:=nx (x:=0) a (by omega) (by omega)
 obtain ⟨r2, _⟩:=nx (x := -(p : Int)) b (by omega) (by omega)
 refine mk_uniq r1 r2 ?_
 refine dq_eq (F := -(p : Int)) ?_ (by omega) (by omega)
 rw [show ((0 : Int) - -(p : Int)).toNat = p by omega, show (-(p : Int) - -(p : Int)).toNat = 0 by omega]
 simp

theorem ytri_any (S : Int) (p : Nat) (vx : Value) (w : World) (hx : IsD w vx (mkM S (-(p : Int))) (mkE S (-(p : Int)))) (hS : S.natAbs ≤ 2 ^ (p + 1)) (hp : p ≤ 240) (hT : Tab w) :
  Calls Tryz.prog 259 #[vx, .int .i64 (p : Int)] w (RetD8 w (mkM (triI p S) (-(p : Int))) (mkE (triI p S) (-(p : Int)))):=by
 obtain ⟨A, c, rfl, _, hn⟩:=hx.form
 have L0:=(Lq.mk0 w).n hn
 have aS : AbP S (p + 1):=hS
 obtain ⟨a1, a2, a3, a4⟩:=tri_ab hS
 have a5 : AbP (3 * 2 ^ p) (p + 4):=(AbP.mul (show AbP 3 2 by unfold AbP; decide) (show AbP (2 ^ p) p by unfold AbP; rw [Int.natAbs_pow]; exact Nat.le_refl _)).up (by omega)
 obtain ⟨n1, n2, n3, n4, n5⟩:=nx (x := -(p : Int)) aS (by omega) (by omega)
 obtain ⟨m1, m2, m3, m4, m5⟩:=nx (x := -(p : Int)) a1 (by omega) (by omega)
 obtain ⟨k1, k2, k3, k4, k5⟩:=nx (x := -(p : Int)) a2 (by omega) (by omega)
 obtain ⟨i1, i2, i3, i4, i5⟩:=nx (x := -(p : Int)) a3 (by omega) (by omega)
 obtain ⟨j1, j2, j3, j4, j5⟩:=nx (x := -(p : Int)) a5 (by omega) (by omega)
 have g1:=fun x y W h j (hW : Below w.heap.size w W) => yprod_any (mkM S (-(p : Int))) (mkE S (-(p : Int))) (mkM S (-(p : Int))) (mkE S (-(p : Int))) (S * S / 2 ^ p) p x y W h j (by omega) (by omega) (by omega) (by omega) (by rw [n5, cut_fl]) (a1.up (by omega)) (by omega) (hT.mono hW)
 have g2:=fun x W h (hW : Below w.heap.size w W) => dshift_any (mkM (S * S / 2 ^ p) (-(p : Int))) (mkE (S * S / 2 ^ p) (-(p : Int))) 2 x W h (by omega) (by omega) (by omega) (hT.mono hW)
 obtain ⟨s1, s2, s3⟩:=nx_shl2 (p:=p) (k:=2) a1 (by omega) (by omega) (by omega)
 rw [show S * S / 2 ^ p * 2 ^ (2 : Int).toNat = S * S / 2 ^ p * 4 from rfl] at s2 s3
 rw [s1, s2, s3] at g2
 have g3:=fun W (hW : Below w.heap.size w W) => dof_any 3 W (by omega) (by omega) (hT.mono hW)
 obtain ⟨o1, o2⟩:=np_int 3 (p:=p) (j:=2) (by decide) (by omega) (by omega)
 rw [o1, o2] at g3
 have g4:=fun x y W h j (hW : Below w.heap.size w W) => dsub_any (mkM (3 * 2 ^ p) (-(p : Int))) (mkE (3 * 2 ^ p) (-(p : Int))) (mkM (S * S / 2 ^ p * 4) (-(p : Int))) (mkE (S * S / 2 ^ p * 4) (-(p : Int))) x y W h j (by omega) (by omega) (by omega) (by omega) (hT.mono hW)
 obtain ⟨u1, u2, u3⟩:=nx_sub (x := -(p : Int)) a5 a2 (by omega) (by omega)
 rw [u1, u2, u3] at g4
 have g5:=fun x y W h j (hW : Below w.heap.size w W) => yprod_any (mkM S (-(p : Int))) (mkE S (-(p : Int))) (mkM (3 * 2 ^ p - S * S / 2 ^ p * 4) (-(p : Int))) (mkE (3 * 2 ^ p - S * S / 2 ^ p * 4) (-(p : Int))) (triI p S) p x y W h j (by omega) (by omega) (by omega) (by omega) (by rw [n5, i5, cut_fl]; rfl) (a4.up (by omega)) (by omega) (hT.mono hW)
 clear s1 s2 s3 u1 u2 u3 o1 o2 n1 n2 n3 n4 n5 m1 m2 m3 m4 m5 k1 k2 k3 k4 k5 i1 i2 i3 i4 i5 j1 j2 j3 j4 j5 a1 a2 a3 a4 a5 aS hS hp hT hx hn
 generalize mkM (triI p S) (-(p : Int)) = MR at *
 generalize mkE (triI p S) (-(p : Int)) = ER at *
 generalize mkM (3 * 2 ^ p - S * S / 2 ^ p * 4) (-(p : Int)) = MG at *
 generalize mkE (3 * 2 ^ p - S * S / 2 ^ p * 4) (-(p : Int)) = EG at *
 generalize mkM (3 * 2 ^ p) (-(p : Int)) = M3 at *
 generalize mkE (3 * 2 ^ p) (-(p : Int)) = E3 at *
 generalize mkM (S * S / 2 ^ p * 4) (-(p : Int)) = M4 at *
 generalize mkE (S * S / 2 ^ p * 4) (-(p : Int)) = E4 at *
 generalize mkM (S * S / 2 ^ p) (-(p : Int)) = MD at *
 generalize mkE (S * S / 2 ^ p) (-(p : Int)) = ED at *
 generalize mkM S (-(p : Int)) = M at *
 generalize mkE S (-(p : Int)) = E at *
 have G1:=Hd9 g1
 have G2:=Hd9 g2
 have G3:=Hd9 g3
 have G4:=Hd9 g4
 have G5:=Hd9 g5
 clear g1 g2 g3 g4 g5
 go_enter Tryz.func259, Tryz.ntmps259
 have L:=((L0.varD (w.heap.size) (by simp) (ng M) A (zl M) c E).varD (w.heap.size + 1) (by simp) false none 0 0 0)
 obtain ⟨c10,c11,c12⟩:=L.tl.b0.a3
 (try go_wp2_with fail)
 refine (G1.out _ _ _ (isD_n (m:=M) (e:=E) (s:=.slice A (zl M) c) (L.getN (by simp))) (isD_n (m:=M) (e:=E) (s:=.slice A (zl M) c) (L.getN (by simp))) L.below).mono ?_
 rintro e w1 ⟨v9, rfl, iz, be⟩
 clear c10 c11 c12
 obtain ⟨A1, c1, rfl, _, in9⟩:=iz.form
 replace L:=(L.step be).n in9
 clear be iz in9
 (try go_wp2_with fail)
 refine (G2.out _ _ (isD_n (m:=MD) (e:=ED) (s:=.slice A1 (zl MD) c1) (L.getN (by simp))) L.below).mono ?_
 rintro e w2 ⟨v9, rfl, iz, be⟩
 obtain ⟨A2, c2, rfl, _, in9⟩:=iz.form
 replace L:=(L.step be).n in9
 clear be iz in9
 have hl9:=L.b0.lt
 replace L:=L.varD w2.heap.size rfl (ng M4) A2 (zl M4) c2 E4
 obtain ⟨c00,c01,c02⟩:=L.b0.a3
 (try go_wp2_with fail)
 clear c00 c01 c02
 obtain ⟨g1, hg1⟩:=nm9 (w2.heap.size)
 rw [hg1] at L hl9 ⊢
 clear hg1
 have hl_g1:=hl9
 clear hl9
 obtain ⟨V, hV, L9⟩:=L.name
 rw [hV]
 clear hV L
 have L:=L9
 clear L9
 have Q0:=Hd9 (fun Z (hZ : Below V.heap.size V Z) => (L.b0.mono hZ).c30)
 have Q1:=Hd9 (fun Z (hZ : Below V.heap.size V Z) => (L.b0.mono hZ).c31)
 have Q2:=Hd9 (fun Z (hZ : Below V.heap.size V Z) => (L.b0.mono hZ).c32)
 have hb0:=L.b0.lt
 have D0 : Dq V V [(.slice A2 (zl M4) c2, (M4 : Int).natAbs)] [] [] []:=⟨((Lq.mk0 V).n (L.getN (v:=.slice A2 (zl M4) c2) (x:=(M4 : Int).natAbs) (by simp))), List.nodup_nil, fun p hp => by cases hp⟩
 have D:=D0.drew
 have hVw:=L.below.size
 have HVW:=Hd9 (fun Z (hZ : Below V.heap.size V Z) => L.below.trans (hZ.mono hVw))
 have LL:=Hd9 L
 clear L
 obtain ⟨K, hK⟩:=nm9 (V.heap.size)
 have hz0 : K ≤ V.heap.size:=by omega
 have hmd : V.drew.heap.size = K:=hK
 have hc0 : g1 < K:=by omega
 go_cut [7, 8] from 17 to 22 (fun s0 s1 wx => s1 = .int .i64 0 ∧ Made1D V MG EG s0 wx)
 case first =>
  go_region_held3 (fun w' => w'.cell? ⟨g1, 0, none⟩ = some (.bool (ng M4)) ∧ w'.cell? ⟨g1, 1, none⟩ = some (.slice A2 (zl M4) c2) ∧ w'.cell? ⟨g1, 2, none⟩ = some (.int .i64 E4)) (((try dsimp only); refine ⟨?_, ?_, ?_⟩ <;> (repeat (first | (with_reducible exact Q0.out _ D.lq.below) | (with_reducible exact Q0.out _ D0.lq.below) | (with_reducible exact Q1.out _ D.lq.below) | (with_reducible exact Q1.out _ D0.lq.below) | (with_reducible exact Q2.out _ D.lq.below) | (with_reducible exact Q2.out _ D0.lq.below) | (with_reducible refine c_alloc _ ?_) | (with_reducible refine c_drew ?_) | (with_reducible refine c_set ?_ (by assumption) ?_) | omega)))) (first | (go_at_call 111; (with_reducible refine (G3.out _ ?_).mono ?_); (· (first | (with_reducible exact HVW.out _ D.lq.below) | (with_reducible exact HVW.out _ (D.boxD false none 0 0 0).lq.below) | (with_reducible exact HVW.out _ (D0.boxD false none 0 0 0).drew.lq.below))); rintro e9 wh ⟨vh, rfl, id, be⟩; obtain ⟨A7, c7, rfl, _, in9⟩:=id.form; (first | (replace D:=D.step be) | (replace D:=(D.boxMD hmd false none 0 0 0).step be) | (replace D:=(D.boxD false none 0 0 0).step be)); have hz:=be.size; (try simp at hz); replace D:=D.n in9; (try (obtain ⟨x00,x01,x02⟩:=D.lq.b0.a3; obtain ⟨y00,y01,y02⟩:=D.lq.b0.f3)); (try obtain ⟨na, nb, nc, nd, nl⟩:=D.n0)) | (go_at_call 123; (with_reducible refine (G4.out _ _ _ ?_ ?_ ?_).mono ?_); (· (first | (with_reducible refine isD_n (D.getN ?_); (repeat (first | (with_reducible exact mS) | apply mT))) | (with_reducible refine isD_n ((D.boxD false none 0 0 0).getN ?_); (repeat (first | (with_reducible exact mS) | apply mT))) | (with_reducible refine isD_n ((D0.boxD false none 0 0 0).drew.getN ?_); (repeat (first | (with_reducible exact mS) | apply mT))))); (· (first | (with_reducible refine isD_n (D.getN ?_); (repeat (first | (with_reducible exact mS) | apply mT))) | (with_reducible refine isD_n ((D.boxD false none 0 0 0).getN ?_); (repeat (first | (with_reducible exact mS) | apply mT))) | (with_reducible refine isD_n ((D0.boxD false none 0 0 0).drew.getN ?_); (repeat (first | (with_reducible exact mS) | apply mT))))); (· (first | (with_reducible exact HVW.out _ D.lq.below) | (with_reducible exact HVW.out _ (D.boxD false none 0 0 0).lq.below) | (with_reducible exact HVW.out _ (D0.boxD false none 0 0 0).drew.lq.below))); rintro e9 wh ⟨vh, rfl, id, be⟩; obtain ⟨A8, c8, rfl, _, in9⟩:=id.form; (first | (replace D:=D.step be) | (replace D:=(D.boxMD hmd false none 0 0 0).step be) | (replace D:=(D.boxD false none 0 0 0).step be)); have hz:=be.size; (try simp at hz); replace D:=D.n in9; (try (obtain ⟨x00,x01,x02⟩:=D.lq.b0.a3; obtain ⟨y00,y01,y02⟩:=D.lq.b0.f3)); (try obtain ⟨na, nb, nc, nd, nl⟩:=D.n0)))
  all_goals
   go_wp2_with fail
   go_meet
   refine ⟨rfl, ?_⟩
   first
   | ((with_reducible refine made1d_a D ?_) <;> (repeat (first | (with_reducible exact mS) | apply mT)))
   | ((with_reducible refine made1d_b D ?_) <;> (repeat (first | (with_reducible exact mS) | apply mT)))
 case rest =>
  obtain ⟨rfl, g2, A9, c9, rfl, hg9, bw, hb9, q1⟩:=hcut
  have L:=((LL.out.step bw).n q1).b hb9
  have hl_g2:=hg9
  clear D D0 hmd LL hb9 q1 bw hg9 HVW Q0 Q1 Q2 hc0
  generalize wc = wd2 at *
  obtain ⟨c00,c01,c02⟩:=L.b0.a3
  obtain ⟨f00,f01,f02⟩:=L.b0.f3
  obtain ⟨c20,c21,c22⟩:=L.tl.tl.b0.a3
  obtain ⟨c30,c31,c32⟩:=L.tl.tl.tl.b0.a3
  (try go_wp2_with fail)
  refine (G5.out _ _ _ (isD_n (m:=M) (e:=E) (s:=.slice A (zl M) c) (L.getN (by simp))) (isD_n (m:=MG) (e:=EG) (s:=.slice A9 (zl MG) c9) (L.getN (by simp))) L.below).mono ?_
  rintro e w4 ⟨v9, rfl, iz, be⟩
  clear c00 f00 c01 f01 c02 f02 c20 c21 c22 c30 c31 c32
  obtain ⟨A6, c6, rfl, _, in9⟩:=iz.form
  replace L:=(L.step be).n in9
  clear be iz in9
  have L9:=L.subx (ns':=[(.slice A6 (zl MR) c6, MR.natAbs)]) (bs':=[(w.heap.size + 1, 26, #[.bool false, .slice none 0 0, .int .i64 0])]) (by simp) (by simp)
  clear L
  have L:=L9
  clear L9
  obtain ⟨c00,c01,c02⟩:=L.b0.a3
  obtain ⟨f00,f01,f02⟩:=L.b0.f3
  (try go_wp2_with fail)
  have LP:=L.putD (by omega) (by first | (simp; done) | (simp; omega)) (ng MR) A6 (zl MR) c6 (ER)
  obtain ⟨k0,k1,k2⟩:=LP.b0.a3
  unfold put3 at k0 k1 k2
  exact bodyPost_ret (v:=.agg #[.bool (ng MR), .slice A6 (zl MR) c6, .int .i64 (ER)]) (by simp [results, Tryz.results259, go_sem, k0, k1, k2]) rfl ⟨_, rfl, isD_n (LP.getN (by simp)), LP.below⟩
def RetKI (w : World) (k m e n f : Int) (en : Ending) (w' : World) : Prop:=∃ v, en = .returned (.tuple #[.int .i64 k, v]) ∧ IsI w' v m e n f ∧ Below w.heap.size w w'
theorem ab_units {C : Int} {k j : Nat} {b : Rat} (h : Ab ((C : Rat) * hn k) b) (hb : b ≤ ((2 ^ j : Nat) : Rat)) : AbP C (k + j):=by
 have o:=pow_hn k
 have e2 : (((2 : Int) ^ (k + j) : Int) : Rat) * hn k = ((2 ^ j : Nat) : Rat):=by
  rw [Int.pow_add, Rat.intCast_mul]
  have : (((2 : Int) ^ j : Int) : Rat) = ((2 ^ j : Nat) : Rat):=by push_cast; rfl
  rw [this]
  grind
 have e : ((2 ^ (k + j) : Nat) : Int) = 2 ^ (k + j):=by push_cast; rfl
 have a : C ≤ 2 ^ (k + j):=int_of_hn k (by rw [e2]; unfold Ab at h; grind)
 have c : -(2 ^ (k + j)) ≤ C:=int_of_hn k (by rw [Rat.intCast_neg, show -(((2 : Int) ^ (k + j) : Int) : Rat) * hn k = -((((2 : Int) ^ (k + j) : Int) : Rat) * hn k) by grind, e2]; unfold Ab at h; grind)
 unfold AbP
 omega
theorem dq_hnz (C : Int) {x : Int} {k : Nat} (h : x = -(k : Int)) : dq C x = (C : Rat) * hn k:=by rw [h]; exact dq_hn C k
theorem hn_one : ∀ k, hn k ≤ 1:=fun k => hn_le (Nat.zero_le k)
theorem quo_pi {d π : Rat} (hπ : Ab (π - piQ) (hn 42)) (hd : Ab d 4294967296) : Ab (2 * d / π) 4294967296:=by
 have pb:=piQ_b
 have s : hn 42 ≤ 1 / 2:=by decide +kernel
 have s2 : (1 : Rat) ≤ 2 - 1 / 2:=by decide +kernel
 have hpi : 2 ≤ π:=by
  have : (2 : Rat) ≤ 3 - 1 / 2:=by decide +kernel
  unfold Ab at hπ; grind
 have hqm : 2 * d / π * π = 2 * d:=Rat.div_mul_cancel (by grind)
 generalize 2 * d / π = q at *
 unfold Ab at *
 constructor
 ·refine le_of_mul (c:=π) (by grind) ?_
  rw [hqm]
  grind
 ·refine le_of_mul (c:=π) (by grind) ?_
  rw [hqm]
  grind
theorem cut_q {y : Rat} (h : Ab y 4294967296) : AbP (cutQ y 64) (64 + 33):=by
 have a:=cut_lo y 64
 have b:=cut_hi y 64
 have u : dq 1 (-64) = hn 64:=by have:=dq_hnz 1 (x := -64) (k:=64) rfl; rwa [show ((1 : Int) : Rat) = 1 from rfl, Rat.one_mul] at this
 rw [u, dq_hnz (cutQ y 64) (x := -64) (k:=64) rfl] at b
 rw [dq_hnz (cutQ y 64) (x := -64) (k:=64) rfl] at a
 have o:=hn_one 64
 refine ab_units (b:=4294967297) (by unfold Ab at *; constructor <;> grind) (by decide +kernel)

theorem yred_any (m e T : Int) (P p : Nat) (vx vp : Value) (w : World) (hx : IsD w vx m e) (hp9 : IsI w vp (mkM (loC T) (-(P : Int))) (mkE (loC T) (-(P : Int))) (mkM (hiC T) (-(P : Int))) (mkE (hiC T) (-(P : Int)))) (lm : zl m ≤ 20) (he : -900 ≤ e ∧ e ≤ 900) (hv : Dv m e) (hd : Ab (dq m e) 4294967296) (hPp : P = p + 32) (hp : 12 ≤ p) (hp2 : p ≤ 240) (h1 : dq (loC T) (-(P : Int)) ≤ piQ) (h2 : piQ ≤ dq (hiC T) (-(P : Int))) (h3 : hiC T ≤ loC T + 2) (hT : Tab w) :
  Calls Tryz.prog 106 #[vx, vp, .int .i64 (p : Int)] w (RetKI w (rdK (2 * dq m e) T P) (mkM (rdA (dq m e) T P p) (-(p : Int))) (mkE (rdA (dq m e) T P p) (-(p : Int))) (mkM (rdB (dq m e) T P p) (-(p : Int))) (mkE (rdB (dq m e) T P p) (-(p : Int)))):=by
 obtain ⟨A, c, rfl, _, hn1⟩:=hx.form
 obtain ⟨B, d, C, d3, rfl, hn2, hn3⟩:=hp9.form
 have L0:=(((Lq.mk0 w).n hn3).n hn2).n hn1
 have pb:=piQ_b
 have o1:=hn_one P
 have w9 : dq (hiC T) (-(P : Int)) ≤ dq (loC T) (-(P : Int)) + 2 * hn P:=by
  rw [dq_hn, dq_hn]
  have:=int_mul_hn P h3
  rw [Rat.intCast_add, show ((2 : Int) : Rat) = 2 from rfl] at this
  grind
 have f33 : (33 : Rat) / 10 + 2 ≤ ((2 ^ 3 : Nat) : Rat):=by decide +kernel
 have aLo : AbP (loC T) (P + 3):=ab_units (b:=33 / 10 + 2) (by rw [← dq_hn]; unfold Ab; constructor <;> grind) f33
 have aHi : AbP (hiC T) (P + 3):=ab_units (b:=33 / 10 + 2) (by rw [← dq_hn]; unfold Ab; constructor <;> grind) f33
 obtain ⟨l1, l2, l3, l4, l5⟩:=nx (x := -(P : Int)) aLo (by omega) (by omega)
 obtain ⟨u1, u2, u3, u4, u5⟩:=nx (x := -(P : Int)) aHi (by omega) (by omega)
 -- twice the number
 have r1 : mkR m (e + 1) = 0:=mk_fits9 (by omega) (by omega) (by omega)
 have r2:=zl_mk m (e + 1)
 have r3:=mkE_at r1 (k:=20) (by omega)
 have r4:=dq_mk r1
 have r5 : dq m (e + 1) = 2 * dq m e:=by
  have:=dq_dbl m (e + 1)
  rw [show e + 1 + -1 = e by omega] at this
  grind
 rw [r5] at r4
 have r6:=mk_ok r1
 have g1:=fun x W h (hW : Below w.heap.size w W) => dshift_any m e 1 x W h (by omega) (by omega) (by omega) (hT.mono hW)
 rw [r1] at g1
 obtain ⟨Md, hMd⟩:=nm9 (mkM m (e + 1))
 obtain ⟨Ed, hEd⟩:=nm9 (mkE m (e + 1))
 rw [hMd] at g1 r2 r4 r6
 rw [hEd] at g1 r3 r4 r6
 -- pi, to 64 places
 obtain ⟨k1, k2, k3⟩:=near_pi (show 44 ≤ P by omega) h1 h2 h3
 have f4 : (33 : Rat) / 10 + 1 ≤ ((2 ^ 3 : Nat) : Rat):=by decide +kernel
 have o42:=hn_one 42
 have aP1 : AbP (rdP1 T P) (64 + 3):=ab_units (b:=33 / 10 + 1) (by rw [← dq_hnz (rdP1 T P) (x := -64) (k:=64) rfl]; unfold Ab at *; constructor <;> grind) f4
 have aP2 : AbP (rdP2 T P) (64 + 3):=ab_units (b:=33 / 10 + 1) (by rw [← dq_hnz (rdP2 T P) (x := -64) (k:=64) rfl]; unfold Ab at *; constructor <;> grind) f4
 obtain ⟨i1, i2, i3, i4, i5⟩:=nx (x := -64) aP1 (by omega) (by omega)
 obtain ⟨j1, j2, j3, j4, j5⟩:=nx (x := -64) aP2 (by omega) (by omega)
 have pm64 : permB 64 = true:=by decide
 have g2:=fun x W h (hW : Below w.heap.size w W) => i10out_yes (mkM (loC T) (-(P : Int))) (mkE (loC T) (-(P : Int))) (mkM (hiC T) (-(P : Int))) (mkE (hiC T) (-(P : Int))) 64 x W h (by omega) (by omega) (by omega) (by omega) (by omega) (by omega) pm64 (by rw [l5]; exact i1) (by rw [u5]; exact j1) (hT.mono hW)
 rw [l5, u5, show cutQ (dq (loC T) (-(P : Int))) 64 = rdP1 T P from rfl, show -(cutQ (-(dq (hiC T) (-(P : Int)))) 64) = rdP2 T P from rfl] at g2
 -- the quotient
 have s42 : hn 42 ≤ 1 / 2:=by decide +kernel
 have s43 : (0 : Rat) < 3 - 1 / 2:=by decide +kernel
 have pos1 : 0 < mkM (rdP1 T P) (-64):=by
  have:=(dq_lt_iff 0 (mkM (rdP1 T P) (-64)) (mkE (rdP1 T P) (-64))).1 (by rw [dq_zero, i5]; unfold Ab at k1; grind)
  exact this
 have pos2 : 0 < mkM (rdP2 T P) (-64):=by
  have:=(dq_lt_iff 0 (mkM (rdP2 T P) (-64)) (mkE (rdP2 T P) (-64))).1 (by rw [dq_zero, j5]; unfold Ab at k2; grind)
  exact this
 have g3:=fun x W h => i10point_any Md Ed x W h (by omega) (by omega) r6
 have wk : workB 64 = true:=by decide
 have c1p:=cmpI_gt pos1
 have c2p:=cmpI_gt pos2
 have g4:=fun x y W h j (hW : Below w.heap.size w W) => adiv_pos Md Ed Md Ed (mkM (rdP1 T P) (-64)) (mkE (rdP1 T P) (-64)) (mkM (rdP2 T P) (-64)) (mkE (rdP2 T P) (-64)) 64 x y W h j (by omega) (by omega) (by omega) (by omega) (by omega) (by omega) (by omega) (by omega) (by rw [dcm_self]; omega) ((dcm_le _ _ _ _).2 (by rw [i5, j5]; exact k3)) (by omega) (by omega) (hT.mono hW) wk (by rw [c1p, c2p]) (by rw [c1p]; omega) (by rw [c1p]; omega)
 rw [r4, i5, j5] at g4
 have q1:=quo_pi k1 hd
 have q2:=quo_pi k2 hd
 have qmin : Ab (min4 (2 * dq m e / dq (rdP1 T P) (-64)) (2 * dq m e / dq (rdP2 T P) (-64)) (2 * dq m e / dq (rdP1 T P) (-64)) (2 * dq m e / dq (rdP2 T P) (-64))) 4294967296:=by
  rcases min4_or (2 * dq m e / dq (rdP1 T P) (-64)) (2 * dq m e / dq (rdP2 T P) (-64)) (2 * dq m e / dq (rdP1 T P) (-64)) (2 * dq m e / dq (rdP2 T P) (-64)) with h | h | h | h <;> rw [h] <;> assumption
 have qmax : Ab (max4 (2 * dq m e / dq (rdP1 T P) (-64)) (2 * dq m e / dq (rdP2 T P) (-64)) (2 * dq m e / dq (rdP1 T P) (-64)) (2 * dq m e / dq (rdP2 T P) (-64))) 4294967296:=by
  rcases max4_or (2 * dq m e / dq (rdP1 T P) (-64)) (2 * dq m e / dq (rdP2 T P) (-64)) (2 * dq m e / dq (rdP1 T P) (-64)) (2 * dq m e / dq (rdP2 T P) (-64)) with h | h | h | h <;> rw [h] <;> assumption
 have qle : min4 (2 * dq m e / dq (rdP1 T P) (-64)) (2 * dq m e / dq (rdP2 T P) (-64)) (2 * dq m e / dq (rdP1 T P) (-64)) (2 * dq m e / dq (rdP2 T P) (-64)) ≤ max4 (2 * dq m e / dq (rdP1 T P) (-64)) (2 * dq m e / dq (rdP2 T P) (-64)) (2 * dq m e / dq (rdP1 T P) (-64)) (2 * dq m e / dq (rdP2 T P) (-64)):=by
  unfold min4 max4 rmin rmax
  grind
 have aC : AbP (rdC (2 * dq m e) T P) (64 + 33):=cut_q qmin
 have aD:=(cut_q qmax.neg).neg
 have zC:=aC.zl
 have zD:=aD.zl
 have hen:=RetEn.ok wk (z:=3) (by rw [show cutQ (min4 (2 * dq m e / dq (rdP1 T P) (-64)) (2 * dq m e / dq (rdP2 T P) (-64)) (2 * dq m e / dq (rdP1 T P) (-64)) (2 * dq m e / dq (rdP2 T P) (-64))) 64 = (rdC (2 * dq m e) T P) from rfl]; exact Nat.le_trans zC (by decide)) (Nat.le_trans zD (by decide)) (by omega) qle
 simp only [hen] at g4
 rw [show enM (min4 (2 * dq m e / dq (rdP1 T P) (-64)) (2 * dq m e / dq (rdP2 T P) (-64)) (2 * dq m e / dq (rdP1 T P) (-64)) (2 * dq m e / dq (rdP2 T P) (-64))) 64 = mkM (rdC (2 * dq m e) T P) (-64) from rfl, show enE (min4 (2 * dq m e / dq (rdP1 T P) (-64)) (2 * dq m e / dq (rdP2 T P) (-64)) (2 * dq m e / dq (rdP1 T P) (-64)) (2 * dq m e / dq (rdP2 T P) (-64))) 64 = mkE (rdC (2 * dq m e) T P) (-64) from rfl] at g4
 obtain ⟨UM, hUM⟩:=nm9 (upM (max4 (2 * dq m e / dq (rdP1 T P) (-64)) (2 * dq m e / dq (rdP2 T P) (-64)) (2 * dq m e / dq (rdP1 T P) (-64)) (2 * dq m e / dq (rdP2 T P) (-64))) 64)
 obtain ⟨UE, hUE⟩:=nm9 (upE (max4 (2 * dq m e / dq (rdP1 T P) (-64)) (2 * dq m e / dq (rdP2 T P) (-64)) (2 * dq m e / dq (rdP1 T P) (-64)) (2 * dq m e / dq (rdP2 T P) (-64))) 64)
 rw [hUM, hUE] at g4
 obtain ⟨s1, s2, s3, s4, s5⟩:=nx (x := -64) aC (by omega) (by omega)
 -- the nearest integer
 have RO:=rd_ok hPp hp h1 h2 h3 hd
 have kb:=RO.kb
 have pm0 : permB 0 = true:=by decide
 obtain ⟨y1, y2, y3⟩:=g_yes pm0 (rdK (2 * dq m e) T P)
 rw [show -(0 : Int) = 0 from rfl] at y1 y2 y3
 have g5:=fun x W h (hW : Below w.heap.size w W) => gnear_any (mkM (rdC (2 * dq m e) T P) (-64)) (mkE (rdC (2 * dq m e) T P) (-64)) 0 x W h (by omega) (by omega) (by omega) (by omega) (hT.mono hW)
 rw [s5, show (0 : Int) + 1 = 1 from rfl, show (cutQ (dq (rdC (2 * dq m e) T P) (-64)) 1 + 1) / 2 = (rdK (2 * dq m e) T P) from rfl, y1, y2, y3] at g5
 have aK : AbP (rdK (2 * dq m e) T P) 33:=by
  have e : (2 : Nat) ^ 33 = 8589934592:=by decide
  unfold AbP
  rw [e]
  omega
 obtain ⟨t1, t2, t3, t4, t5⟩:=nx (x:=0) aK (by omega) (by omega)
 rw [t1] at g5
 have v1 : mkR (mkM (rdK (2 * dq m e) T P) 0) (mkE (rdK (2 * dq m e) T P) 0 + -1) = 0:=mk_fits9 (by omega) (by omega) (by omega)
 have v2:=zl_mk (mkM (rdK (2 * dq m e) T P) 0) (mkE (rdK (2 * dq m e) T P) 0 + -1)
 have v3:=mkE_at v1 (k:=2) (by omega)
 have v4:=dq_mk v1
 rw [dq_hlv, t5, show dq (rdK (2 * dq m e) T P) 0 * dq 1 (-1) = dq (rdK (2 * dq m e) T P) (-1) by rw [dq_int]; exact (dq_scale _ _).symm] at v4
 have g6:=fun x W h (hW : Below w.heap.size w W) => dshift_any (mkM (rdK (2 * dq m e) T P) 0) (mkE (rdK (2 * dq m e) T P) 0) (-1) x W h (by omega) (by omega) (by omega) (hT.mono hW)
 rw [v1] at g6
 obtain ⟨Mh, hMh⟩:=nm9 (mkM (mkM (rdK (2 * dq m e) T P) 0) (mkE (rdK (2 * dq m e) T P) 0 + -1))
 obtain ⟨Eh, hEh⟩:=nm9 (mkE (mkM (rdK (2 * dq m e) T P) 0) (mkE (rdK (2 * dq m e) T P) 0 + -1))
 rw [hMh] at g6 v2 v4
 rw [hEh] at g6 v3 v4
 -- the rest
 obtain ⟨_, _, a3, a4, a5, a6⟩:=df_nums (m:=m) (e:=e) (n:=Mh) (f:=Eh) (k:=mkM (loC T) (-(P : Int))) (g:=mkE (loC T) (-(P : Int))) (by omega) (by omega) (by omega) (by omega) (by omega) (by omega)
 obtain ⟨_, _, b3, b4, b5, b6⟩:=df_nums (m:=m) (e:=e) (n:=Mh) (f:=Eh) (k:=mkM (hiC T) (-(P : Int))) (g:=mkE (hiC T) (-(P : Int))) (by omega) (by omega) (by omega) (by omega) (by omega) (by omega)
 rw [v4, l5] at a6
 rw [v4, u5] at b6
 have g7:=fun x y z W h i j (hW : Below w.heap.size w W) => ydiff_any m e Mh Eh (mkM (loC T) (-(P : Int))) (mkE (loC T) (-(P : Int))) x y z W h i j (by omega) (by omega) (by omega) (by omega) (by omega) (by omega) (hT.mono hW)
 have g8:=fun x y z W h i j (hW : Below w.heap.size w W) => ydiff_any m e Mh Eh (mkM (hiC T) (-(P : Int))) (mkE (hiC T) (-(P : Int))) x y z W h i j (by omega) (by omega) (by omega) (by omega) (by omega) (by omega) (hT.mono hW)
 obtain ⟨X1, hX1⟩:=nm9 (sbM m e (prM Mh (mkM (loC T) (-(P : Int))) Eh (mkE (loC T) (-(P : Int)))) (prE Mh (mkM (loC T) (-(P : Int))) Eh (mkE (loC T) (-(P : Int)))))
 obtain ⟨F1, hF1⟩:=nm9 (sbE m e (prM Mh (mkM (loC T) (-(P : Int))) Eh (mkE (loC T) (-(P : Int)))) (prE Mh (mkM (loC T) (-(P : Int))) Eh (mkE (loC T) (-(P : Int)))))
 obtain ⟨X2, hX2⟩:=nm9 (sbM m e (prM Mh (mkM (hiC T) (-(P : Int))) Eh (mkE (hiC T) (-(P : Int)))) (prE Mh (mkM (hiC T) (-(P : Int))) Eh (mkE (hiC T) (-(P : Int)))))
 obtain ⟨F2, hF2⟩:=nm9 (sbE m e (prM Mh (mkM (hiC T) (-(P : Int))) Eh (mkE (hiC T) (-(P : Int)))) (prE Mh (mkM (hiC T) (-(P : Int))) Eh (mkE (hiC T) (-(P : Int)))))
 rw [hX1, hF1] at g7 a5 a6
 rw [hX1] at a3
 rw [hF1] at a4
 rw [hX2, hF2] at g8 b5 b6
 rw [hX2] at b3
 rw [hF2] at b4
 have g9:=fun x y W h j => i10hull_any X1 F1 X1 F1 X2 F2 X2 F2 x y W h j (by omega) (by omega) (by omega) (by omega) (by omega) (by omega) (by omega) (by omega) a5 a5 b5 b5
 have lm1:=lst_min X1 F1 X2 F2
 have gm1:=gst_max X1 F1 X2 F2
 have lz:=lstD_zl (m:=X1) (e:=F1) (n:=X2) (f:=F2) a3 b3
 have gz:=gstD_zl (m:=X1) (e:=F1) (n:=X2) (f:=F2) a3 b3
 have li:=lstD_in (m:=X1) (e:=F1) (n:=X2) (f:=F2) a4 b4
 have gi:=gstD_in (m:=X1) (e:=F1) (n:=X2) (f:=F2) a4 b4
 obtain ⟨Xl, hXl⟩:=nm9 ((lstD X1 F1 X2 F2).1)
 obtain ⟨Fl, hFl⟩:=nm9 ((lstD X1 F1 X2 F2).2)
 obtain ⟨Xg, hXg⟩:=nm9 ((gstD X1 F1 X2 F2).1)
 obtain ⟨Fg, hFg⟩:=nm9 ((gstD X1 F1 X2 F2).2)
 rw [hXl, hFl, hXg, hFg] at g9
 rw [hXl, hFl, a6, b6] at lm1
 rw [hXg, hFg, a6, b6] at gm1
 rw [hXl] at lz
 rw [hFl] at li
 rw [hXg] at gz
 rw [hFg] at gi
 have aA : AbP (rdA (dq m e) T P p) p:=RO.ab.1
 have aB : AbP (rdB (dq m e) T P p) p:=RO.ab.2
 obtain ⟨z1, z2, z3, z4, z5⟩:=nx (x := -(p : Int)) aA (by omega) (by omega)
 obtain ⟨w1, w2, w3, w4, w5⟩:=nx (x := -(p : Int)) aB (by omega) (by omega)
 have pmp:=permN (p:=p) (by omega)
 have g10:=fun x W h (hW : Below w.heap.size w W) => i10out_yes Xl Fl Xg Fg (p : Int) x W h (by omega) (by omega) (by omega) (by omega) (by omega) (by omega) pmp (by rw [lm1]; exact z1) (by rw [gm1]; exact w1) (hT.mono hW)
 rw [lm1, gm1, show cutQ (rmin (dq m e - dq (rdK (2 * dq m e) T P) (-1) * dq (loC T) (-(P : Int))) (dq m e - dq (rdK (2 * dq m e) T P) (-1) * dq (hiC T) (-(P : Int)))) (p : Int) = (rdA (dq m e) T P p) from rfl, show -(cutQ (-(rmax (dq m e - dq (rdK (2 * dq m e) T P) (-1) * dq (loC T) (-(P : Int))) (dq m e - dq (rdK (2 * dq m e) T P) (-1) * dq (hiC T) (-(P : Int))))) (p : Int)) = (rdB (dq m e) T P p) from rfl] at g10
 have g11:=fun x W h => ywhole_any (rdK (2 * dq m e) T P) x W h (by omega)
 clear pb o1 w9 f33 aLo aHi l1 l2 l3 l4 l5 u1 u2 u3 u4 u5 r1 r2 r3 r4 r5 r6 hMd hEd k1 k2 k3 f4 o42 aP1 aP2 i1 i2 i3 i4 i5 j1 j2 j3 j4 j5 pm64 s42 s43 pos1 pos2 wk c1p c2p q1 q2 qmin qmax qle aC aD zC zD hen hUM hUE s1 s2 s3 s4 s5 RO kb pm0 y1 y2 y3 aK t1 t2 t3 t4 t5 v1 v2 v3 v4 hMh hEh a3 a4 a5 a6 b3 b4 b5 b6 hX1 hF1 hX2 hF2 lm1 gm1 lz gz li gi hXl hFl hXg hFg aA aB z1 z2 z3 z4 z5 w1 w2 w3 w4 w5 pmp hx hp9 lm he hv hd hPp hp hp2 h1 h2 h3 hT hn1 hn2 hn3
 generalize mkM (rdA (dq m e) T P p) (-(p : Int)) = MA at *
 generalize mkE (rdA (dq m e) T P p) (-(p : Int)) = EA at *
 generalize mkM (rdB (dq m e) T P p) (-(p : Int)) = MB at *
 generalize mkE (rdB (dq m e) T P p) (-(p : Int)) = EB at *
 generalize mkM (rdK (2 * dq m e) T P) 0 = MK at *
 generalize mkE (rdK (2 * dq m e) T P) 0 = EK at *
 generalize mkM (rdC (2 * dq m e) T P) (-64) = MC at *
 generalize mkE (rdC (2 * dq m e) T P) (-64) = EC at *
 generalize mkM (rdP1 T P) (-64) = N1 at *
 generalize mkE (rdP1 T P) (-64) = H1 at *
 generalize mkM (rdP2 T P) (-64) = N2 at *
 generalize mkE (rdP2 T P) (-64) = H2 at *
 generalize mkM (loC T) (-(P : Int)) = ML at *
 generalize mkE (loC T) (-(P : Int)) = EL at *
 generalize mkM (hiC T) (-(P : Int)) = MU at *
 generalize mkE (hiC T) (-(P : Int)) = EU at *
 generalize (rdK (2 * dq m e) T P) = KT at *
 have G1:=Hd9 g1
 have G2:=Hd9 g2
 have G3:=Hd9 g3
 have G4:=Hd9 g4
 have G5:=Hd9 g5
 have G6:=Hd9 g6
 have G7:=Hd9 g7
 have G8:=Hd9 g8
 have G9:=Hd9 g9
 have G10:=Hd9 g10
 have G11:=Hd9 g11
 clear g1 g2 g3 g4 g5 g6 g7 g8 g9 g10 g11
 go_enter Tryz.func106, Tryz.ntmps106
 have L:=(((L0.varD (w.heap.size) (by simp) (ng m) A (zl m) c e).varI (w.heap.size + 1) (by simp) (ng ML) B (zl ML) d EL (ng MU) C (zl MU) d3 EU).varI (w.heap.size + 2) (by simp) false none 0 0 0 false none 0 0 0)
 obtain ⟨c20,c21,c22⟩:=L.tl.tl.b0.a3
 (try go_wp2_with fail)
 refine (G1.out _ _ (isD_n (m:=m) (e:=e) (s:=.slice A (zl m) c) (L.getN (by simp))) L.below).mono ?_
 rintro e w1 ⟨v9, rfl, iz, be⟩
 clear c20 c21 c22
 obtain ⟨A1, c1, rfl, _, in9⟩:=iz.form
 replace L:=(L.step be).n in9
 clear be iz in9
 have hl9:=L.b0.lt
 replace L:=L.varD w1.heap.size rfl (ng Md) A1 (zl Md) c1 Ed
 obtain ⟨c00,c01,c02⟩:=L.b0.a3
 obtain ⟨c20,c21,c22,c23,c24,c25⟩:=L.tl.tl.b0.a6
 (try go_wp2_with fail)
 clear c00 c01 c02 c20 c21 c22 c23 c24 c25
 obtain ⟨g1, hg1⟩:=nm9 (w1.heap.size)
 rw [hg1] at L hl9 ⊢
 clear hg1
 have hl_g1:=hl9
 clear hl9
 refine (G2.out _ _ (isI_n (m:=ML) (e:=EL) (n:=MU) (f:=EU) (s:=.slice B (zl ML) d) (t:=.slice C (zl MU) d3) (L.getN (by simp)) (L.getN (by simp))) L.below).mono ?_
 rintro e w2 ⟨v9, rfl, ii, be⟩
 obtain ⟨A2, c2, B2, d2, rfl, ia, ib⟩:=ii.form
 replace L:=((L.step be).n ib).n ia
 clear be ii ia ib
 have hl9:=L.b0.lt
 replace L:=L.varI w2.heap.size rfl (ng N1) A2 (zl N1) c2 H1 (ng N2) B2 (zl N2) d2 H2
 obtain ⟨c00,c01,c02,c03,c04,c05⟩:=L.b0.a6
 obtain ⟨c10,c11,c12⟩:=L.tl.b0.a3
 (try go_wp2_with fail)
 clear c00 c01 c02 c03 c04 c05 c10 c11 c12
 obtain ⟨g2, hg2⟩:=nm9 (w2.heap.size)
 rw [hg2] at L hl9 ⊢
 clear hg2
 have hl_g2:=hl9
 clear hl9
 obtain ⟨V, hV, L9⟩:=L.name
 rw [hV]
 clear hV L
 have L:=L9
 clear L9
 have Q0:=Hd9 (fun Z (hZ : Below V.heap.size V Z) => (L.b0.mono hZ).c60)
 have Q1:=Hd9 (fun Z (hZ : Below V.heap.size V Z) => (L.b0.mono hZ).c61)
 have Q2:=Hd9 (fun Z (hZ : Below V.heap.size V Z) => (L.b0.mono hZ).c62)
 have Q3:=Hd9 (fun Z (hZ : Below V.heap.size V Z) => (L.b0.mono hZ).c63)
 have Q4:=Hd9 (fun Z (hZ : Below V.heap.size V Z) => (L.b0.mono hZ).c64)
 have Q5:=Hd9 (fun Z (hZ : Below V.heap.size V Z) => (L.b0.mono hZ).c65)
 have Q6:=Hd9 (fun Z (hZ : Below V.heap.size V Z) => (L.tl.b0.mono hZ).c30)
 have Q7:=Hd9 (fun Z (hZ : Below V.heap.size V Z) => (L.tl.b0.mono hZ).c31)
 have Q8:=Hd9 (fun Z (hZ : Below V.heap.size V Z) => (L.tl.b0.mono hZ).c32)
 have hb0:=L.b0.lt
 have hb1:=L.tl.b0.lt
 have D0 : Dq V V [(.slice A2 (zl N1) c2, (N1 : Int).natAbs), (.slice B2 (zl N2) d2, (N2 : Int).natAbs), (.slice A1 (zl Md) c1, (Md : Int).natAbs)] [] [] []:=⟨((((Lq.mk0 V).n (L.getN (v:=.slice A1 (zl Md) c1) (x:=(Md : Int).natAbs) (by simp))).n (L.getN (v:=.slice B2 (zl N2) d2) (x:=(N2 : Int).natAbs) (by simp))).n (L.getN (v:=.slice A2 (zl N1) c2) (x:=(N1 : Int).natAbs) (by simp))), List.nodup_nil, fun p hp => by cases hp⟩
 have D:=D0.drew
 have hVw:=L.below.size
 have HVW:=Hd9 (fun Z (hZ : Below V.heap.size V Z) => L.below.trans (hZ.mono hVw))
 have LL:=Hd9 L
 clear L
 obtain ⟨K, hK⟩:=nm9 (V.heap.size)
 have hz0 : K ≤ V.heap.size:=by omega
 have hmd : V.drew.heap.size = K:=hK
 have hc0 : g2 < K:=by omega
 have hc1 : g1 < K:=by omega
 go_cut [12, 13] from 29 to 35 (fun s0 s1 wx => s1 = .int .i64 0 ∧ Made1I V MC EC UM UE s0 wx)
 case first =>
  go_region_held3 (fun w' => w'.cell? ⟨g2, 0, none⟩ = some (.bool (ng N1)) ∧ w'.cell? ⟨g2, 1, none⟩ = some (.slice A2 (zl N1) c2) ∧ w'.cell? ⟨g2, 2, none⟩ = some (.int .i64 H1) ∧ w'.cell? ⟨g2, 3, none⟩ = some (.bool (ng N2)) ∧ w'.cell? ⟨g2, 4, none⟩ = some (.slice B2 (zl N2) d2) ∧ w'.cell? ⟨g2, 5, none⟩ = some (.int .i64 H2) ∧ w'.cell? ⟨g1, 0, none⟩ = some (.bool (ng Md)) ∧ w'.cell? ⟨g1, 1, none⟩ = some (.slice A1 (zl Md) c1) ∧ w'.cell? ⟨g1, 2, none⟩ = some (.int .i64 Ed)) (((try dsimp only); refine ⟨?_, ?_, ?_, ?_, ?_, ?_, ?_, ?_, ?_⟩ <;> (repeat (first | (with_reducible exact Q0.out _ D.lq.below) | (with_reducible exact Q0.out _ D0.lq.below) | (with_reducible exact Q1.out _ D.lq.below) | (with_reducible exact Q1.out _ D0.lq.below) | (with_reducible exact Q2.out _ D.lq.below) | (with_reducible exact Q2.out _ D0.lq.below) | (with_reducible exact Q3.out _ D.lq.below) | (with_reducible exact Q3.out _ D0.lq.below) | (with_reducible exact Q4.out _ D.lq.below) | (with_reducible exact Q4.out _ D0.lq.below) | (with_reducible exact Q5.out _ D.lq.below) | (with_reducible exact Q5.out _ D0.lq.below) | (with_reducible exact Q6.out _ D.lq.below) | (with_reducible exact Q6.out _ D0.lq.below) | (with_reducible exact Q7.out _ D.lq.below) | (with_reducible exact Q7.out _ D0.lq.below) | (with_reducible exact Q8.out _ D.lq.below) | (with_reducible exact Q8.out _ D0.lq.below) | (with_reducible refine c_alloc _ ?_) | (with_reducible refine c_drew ?_) | (with_reducible refine c_set ?_ (by assumption) ?_) | omega)))) (first | (go_at_call 171; (with_reducible refine (G3.out _ _ ?_).mono ?_); (· (first | (with_reducible refine isD_n (D.getN ?_); (repeat (first | (with_reducible exact mS) | apply mT))) | (with_reducible refine isD_n ((D.boxI false none 0 0 0 false none 0 0 0).getN ?_); (repeat (first | (with_reducible exact mS) | apply mT))) | (with_reducible refine isD_n ((D0.boxI false none 0 0 0 false none 0 0 0).drew.getN ?_); (repeat (first | (with_reducible exact mS) | apply mT))))); rintro e9 wh ⟨vh, rfl, ii, be⟩; obtain ⟨A3, c3, B3, d3_, rfl, ia, ib⟩:=ii.form; (first | (replace D:=D.step be) | (replace D:=(D.boxMI hmd false none 0 0 0 false none 0 0 0).step be) | (replace D:=(D.boxI false none 0 0 0 false none 0 0 0).step be)); have hz:=be.size; (try simp at hz); replace D:=(D.n ib).n ia; (try (obtain ⟨x00,x01,x02,x03,x04,x05⟩:=D.lq.b0.a6; obtain ⟨y00,y01,y02,y03,y04,y05⟩:=D.lq.b0.f6)); (try obtain ⟨na, nb, nc, nd, nl⟩:=D.n0)) | (go_at_call 44; (with_reducible refine (G4.out _ _ _ ?_ ?_ ?_).mono ?_); (· (first | (with_reducible refine isI_n (D.getN ?_) (D.getN ?_) <;> (repeat (first | (with_reducible exact mS) | apply mT))) | (with_reducible refine isI_n ((D.boxI false none 0 0 0 false none 0 0 0).getN ?_) ((D.boxI false none 0 0 0 false none 0 0 0).getN ?_) <;> (repeat (first | (with_reducible exact mS) | apply mT))) | (with_reducible refine isI_n ((D0.boxI false none 0 0 0 false none 0 0 0).drew.getN ?_) ((D0.boxI false none 0 0 0 false none 0 0 0).drew.getN ?_) <;> (repeat (first | (with_reducible exact mS) | apply mT))))); (· (first | (with_reducible refine isI_n (D.getN ?_) (D.getN ?_) <;> (repeat (first | (with_reducible exact mS) | apply mT))) | (with_reducible refine isI_n ((D.boxI false none 0 0 0 false none 0 0 0).getN ?_) ((D.boxI false none 0 0 0 false none 0 0 0).getN ?_) <;> (repeat (first | (with_reducible exact mS) | apply mT))) | (with_reducible refine isI_n ((D0.boxI false none 0 0 0 false none 0 0 0).drew.getN ?_) ((D0.boxI false none 0 0 0 false none 0 0 0).drew.getN ?_) <;> (repeat (first | (with_reducible exact mS) | apply mT))))); (· (first | (with_reducible exact HVW.out _ D.lq.below) | (with_reducible exact HVW.out _ (D.boxI false none 0 0 0 false none 0 0 0).lq.below) | (with_reducible exact HVW.out _ (D0.boxI false none 0 0 0 false none 0 0 0).drew.lq.below))); rintro e9 wh ⟨vh, rfl, ii, be⟩; obtain ⟨A4, c4, B4, d4, rfl, ia, ib⟩:=ii.form; (first | (replace D:=D.step be) | (replace D:=(D.boxMI hmd false none 0 0 0 false none 0 0 0).step be) | (replace D:=(D.boxI false none 0 0 0 false none 0 0 0).step be)); have hz:=be.size; (try simp at hz); replace D:=(D.n ib).n ia; (try (obtain ⟨x00,x01,x02,x03,x04,x05⟩:=D.lq.b0.a6; obtain ⟨y00,y01,y02,y03,y04,y05⟩:=D.lq.b0.f6)); (try obtain ⟨na, nb, nc, nd, nl⟩:=D.n0)))
  all_goals
   go_wp2_with fail
   go_meet
   refine ⟨rfl, ?_⟩
   first
   | ((with_reducible refine made1i_a D ?_ ?_) <;> (repeat (first | (with_reducible exact mS) | apply mT)))
   | ((with_reducible refine made1i_b D ?_ ?_) <;> (repeat (first | (with_reducible exact mS) | apply mT)))
 case rest =>
  obtain ⟨rfl, g3, A5, c5, B5, d5, rfl, hg9, bw, hb9, q1, q2⟩:=hcut
  have L:=(((LL.out.step bw).n q2).n q1).b hb9
  have hl_g3:=hg9
  clear D D0 hmd LL hb9 q1 q2 bw hg9 HVW Q0 Q1 Q2 Q3 Q4 Q5 Q6 Q7 Q8 hc0 hc1
  generalize wc = wd2 at *
  obtain ⟨c00,c01,c02,c03,c04,c05⟩:=L.b0.a6
  (try go_wp2_with fail)
  refine (G5.out _ _ (isD_n (m:=MC) (e:=EC) (s:=.slice A5 (zl MC) c5) (L.getN (by simp))) L.below).mono ?_
  rintro e w4 ⟨v9, rfl, iz, be⟩
  clear c00 c01 c02 c03 c04 c05
  obtain ⟨A6, c6, rfl, _, in9⟩:=iz.form
  replace L:=(L.step be).n in9
  clear be iz in9
  have hl9:=L.b0.lt
  replace L:=L.varD w4.heap.size rfl (ng MK) A6 (zl MK) c6 EK
  obtain ⟨c00,c01,c02⟩:=L.b0.a3
  (try go_wp2_with fail)
  clear c00 c01 c02
  obtain ⟨g4, hg4⟩:=nm9 (w4.heap.size)
  rw [hg4] at L hl9 ⊢
  clear hg4
  have hl_g4:=hl9
  clear hl9
  refine (G6.out _ _ (isD_n (m:=MK) (e:=EK) (s:=.slice A6 (zl MK) c6) (L.getN (by simp))) L.below).mono ?_
  rintro e w5 ⟨v9, rfl, iz, be⟩
  obtain ⟨A7, c7, rfl, _, in9⟩:=iz.form
  replace L:=(L.step be).n in9
  clear be iz in9
  have hl9:=L.b0.lt
  replace L:=L.varD w5.heap.size rfl (ng Mh) A7 (zl Mh) c7 Eh
  (try go_wp2_with fail)
  obtain ⟨g5, hg5⟩:=nm9 (w5.heap.size)
  rw [hg5] at L hl9 ⊢
  clear hg5
  have hl_g5:=hl9
  clear hl9
  obtain ⟨V, hV, L9⟩:=L.name
  rw [hV]
  clear hV L
  have L:=L9
  clear L9
  have Q0:=Hd9 (fun Z (hZ : Below V.heap.size V Z) => (L.b0.mono hZ).c30)
  have Q1:=Hd9 (fun Z (hZ : Below V.heap.size V Z) => (L.b0.mono hZ).c31)
  have Q2:=Hd9 (fun Z (hZ : Below V.heap.size V Z) => (L.b0.mono hZ).c32)
  have Q3:=Hd9 (fun Z (hZ : Below V.heap.size V Z) => (L.tl.tl.tl.tl.tl.tl.b0.mono hZ).c60)
  have Q4:=Hd9 (fun Z (hZ : Below V.heap.size V Z) => (L.tl.tl.tl.tl.tl.tl.b0.mono hZ).c61)
  have Q5:=Hd9 (fun Z (hZ : Below V.heap.size V Z) => (L.tl.tl.tl.tl.tl.tl.b0.mono hZ).c62)
  have Q6:=Hd9 (fun Z (hZ : Below V.heap.size V Z) => (L.tl.tl.tl.tl.tl.tl.b0.mono hZ).c63)
  have Q7:=Hd9 (fun Z (hZ : Below V.heap.size V Z) => (L.tl.tl.tl.tl.tl.tl.b0.mono hZ).c64)
  have Q8:=Hd9 (fun Z (hZ : Below V.heap.size V Z) => (L.tl.tl.tl.tl.tl.tl.b0.mono hZ).c65)
  have Q9:=Hd9 (fun Z (hZ : Below V.heap.size V Z) => (L.tl.tl.tl.tl.tl.tl.tl.b0.mono hZ).c30)
  have Q10:=Hd9 (fun Z (hZ : Below V.heap.size V Z) => (L.tl.tl.tl.tl.tl.tl.tl.b0.mono hZ).c31)
  have Q11:=Hd9 (fun Z (hZ : Below V.heap.size V Z) => (L.tl.tl.tl.tl.tl.tl.tl.b0.mono hZ).c32)
  have hb0:=L.b0.lt
  have hb1:=L.tl.tl.tl.tl.tl.tl.b0.lt
  have hb2:=L.tl.tl.tl.tl.tl.tl.tl.b0.lt
  have hb3:=L.tl.tl.tl.tl.tl.b0.lt
  have hb4:=L.tl.b0.lt
  have D0 : Dq V V [(.slice A7 (zl Mh) c7, (Mh : Int).natAbs), (.slice B (zl ML) d, (ML : Int).natAbs), (.slice C (zl MU) d3, (MU : Int).natAbs), (.slice A (zl m) c, (m : Int).natAbs)] [] [] []:=⟨(((((Lq.mk0 V).n (L.getN (v:=.slice A (zl m) c) (x:=(m : Int).natAbs) (by simp))).n (L.getN (v:=.slice C (zl MU) d3) (x:=(MU : Int).natAbs) (by simp))).n (L.getN (v:=.slice B (zl ML) d) (x:=(ML : Int).natAbs) (by simp))).n (L.getN (v:=.slice A7 (zl Mh) c7) (x:=(Mh : Int).natAbs) (by simp))), List.nodup_nil, fun p hp => by cases hp⟩
  have D:=D0.drew
  have hVw:=L.below.size
  have HVW:=Hd9 (fun Z (hZ : Below V.heap.size V Z) => L.below.trans (hZ.mono hVw))
  have LL:=Hd9 L
  clear L
  obtain ⟨K, hK⟩:=nm9 (V.heap.size)
  have hz0 : K ≤ V.heap.size:=by omega
  have hmd : V.drew.heap.size = K:=hK
  have hc0 : g5 < K:=by omega
  have hc1 : w.heap.size + 1 < K:=by omega
  have hc2 : w.heap.size < K:=by omega
  have hc3 : w.heap.size + 1 + 1 < K:=by omega
  have hc4 : g4 < K:=by omega
  go_cut [18] from 47 to 57 (fun s0 wx => Made1I V Xl Fl Xg Fg s0 wx)
  case first =>
   go_region_held3 (fun w' => w'.cell? ⟨g5, 0, none⟩ = some (.bool (ng Mh)) ∧ w'.cell? ⟨g5, 1, none⟩ = some (.slice A7 (zl Mh) c7) ∧ w'.cell? ⟨g5, 2, none⟩ = some (.int .i64 Eh) ∧ w'.cell? ⟨w.heap.size + 1, 0, none⟩ = some (.bool (ng ML)) ∧ w'.cell? ⟨w.heap.size + 1, 1, none⟩ = some (.slice B (zl ML) d) ∧ w'.cell? ⟨w.heap.size + 1, 2, none⟩ = some (.int .i64 EL) ∧ w'.cell? ⟨w.heap.size + 1, 3, none⟩ = some (.bool (ng MU)) ∧ w'.cell? ⟨w.heap.size + 1, 4, none⟩ = some (.slice C (zl MU) d3) ∧ w'.cell? ⟨w.heap.size + 1, 5, none⟩ = some (.int .i64 EU) ∧ w'.cell? ⟨w.heap.size, 0, none⟩ = some (.bool (ng m)) ∧ w'.cell? ⟨w.heap.size, 1, none⟩ = some (.slice A (zl m) c) ∧ w'.cell? ⟨w.heap.size, 2, none⟩ = some (.int .i64 e)) (((try dsimp only); refine ⟨?_, ?_, ?_, ?_, ?_, ?_, ?_, ?_, ?_, ?_, ?_, ?_⟩ <;> (repeat (first | (with_reducible exact Q0.out _ D.lq.below) | (with_reducible exact Q0.out _ D0.lq.below) | (with_reducible exact Q1.out _ D.lq.below) | (with_reducible exact Q1.out _ D0.lq.below) | (with_reducible exact Q2.out _ D.lq.below) | (with_reducible exact Q2.out _ D0.lq.below) | (with_reducible exact Q3.out _ D.lq.below) | (with_reducible exact Q3.out _ D0.lq.below) | (with_reducible exact Q4.out _ D.lq.below) | (with_reducible exact Q4.out _ D0.lq.below) | (with_reducible exact Q5.out _ D.lq.below) | (with_reducible exact Q5.out _ D0.lq.below) | (with_reducible exact Q6.out _ D.lq.below) | (with_reducible exact Q6.out _ D0.lq.below) | (with_reducible exact Q7.out _ D.lq.below) | (with_reducible exact Q7.out _ D0.lq.below) | (with_reducible exact Q8.out _ D.lq.below) | (with_reducible exact Q8.out _ D0.lq.below) | (with_reducible exact Q9.out _ D.lq.below) | (with_reducible exact Q9.out _ D0.lq.below) | (with_reducible exact Q10.out _ D.lq.below) | (with_reducible exact Q10.out _ D0.lq.below) | (with_reducible exact Q11.out _ D.lq.below) | (with_reducible exact Q11.out _ D0.lq.below) | (with_reducible refine c_alloc _ ?_) | (with_reducible refine c_drew ?_) | (with_reducible refine c_set ?_ (by assumption) ?_) | omega)))) (first | (go_at_call 175; (with_reducible refine (G7.out _ _ _ _ ?_ ?_ ?_ ?_).mono ?_); (· (first | (with_reducible refine isD_n (D.getN ?_); (repeat (first | (with_reducible exact mS) | apply mT))) | (with_reducible refine isD_n ((D.boxI false none 0 0 0 false none 0 0 0).getN ?_); (repeat (first | (with_reducible exact mS) | apply mT))) | (with_reducible refine isD_n ((D0.boxI false none 0 0 0 false none 0 0 0).drew.getN ?_); (repeat (first | (with_reducible exact mS) | apply mT))))); (· (first | (with_reducible refine isD_n (D.getN ?_); (repeat (first | (with_reducible exact mS) | apply mT))) | (with_reducible refine isD_n ((D.boxI false none 0 0 0 false none 0 0 0).getN ?_); (repeat (first | (with_reducible exact mS) | apply mT))) | (with_reducible refine isD_n ((D0.boxI false none 0 0 0 false none 0 0 0).drew.getN ?_); (repeat (first | (with_reducible exact mS) | apply mT))))); (· (first | (with_reducible refine isD_n (D.getN ?_); (repeat (first | (with_reducible exact mS) | apply mT))) | (with_reducible refine isD_n ((D.boxI false none 0 0 0 false none 0 0 0).getN ?_); (repeat (first | (with_reducible exact mS) | apply mT))) | (with_reducible refine isD_n ((D0.boxI false none 0 0 0 false none 0 0 0).drew.getN ?_); (repeat (first | (with_reducible exact mS) | apply mT))))); (· (first | (with_reducible exact HVW.out _ D.lq.below) | (with_reducible exact HVW.out _ (D.boxI false none 0 0 0 false none 0 0 0).lq.below) | (with_reducible exact HVW.out _ (D0.boxI false none 0 0 0 false none 0 0 0).drew.lq.below))); rintro e9 wh ⟨vh, rfl, ii, be⟩; obtain ⟨A8, c8, B8, d8, rfl, ia, ib⟩:=ii.form; (first | (replace D:=D.step be) | (replace D:=(D.boxMI hmd false none 0 0 0 false none 0 0 0).step be) | (replace D:=(D.boxI false none 0 0 0 false none 0 0 0).step be)); have hz:=be.size; (try simp at hz); replace D:=(D.n ib).n ia; (try (obtain ⟨x00,x01,x02,x03,x04,x05⟩:=D.lq.b0.a6; obtain ⟨y00,y01,y02,y03,y04,y05⟩:=D.lq.b0.f6)); (try obtain ⟨na, nb, nc, nd, nl⟩:=D.n0)) | (go_at_call 175; (with_reducible refine (G8.out _ _ _ _ ?_ ?_ ?_ ?_).mono ?_); (· (first | (with_reducible refine isD_n (D.getN ?_); (repeat (first | (with_reducible exact mS) | apply mT))) | (with_reducible refine isD_n ((D.boxI false none 0 0 0 false none 0 0 0).getN ?_); (repeat (first | (with_reducible exact mS) | apply mT))) | (with_reducible refine isD_n ((D0.boxI false none 0 0 0 false none 0 0 0).drew.getN ?_); (repeat (first | (with_reducible exact mS) | apply mT))))); (· (first | (with_reducible refine isD_n (D.getN ?_); (repeat (first | (with_reducible exact mS) | apply mT))) | (with_reducible refine isD_n ((D.boxI false none 0 0 0 false none 0 0 0).getN ?_); (repeat (first | (with_reducible exact mS) | apply mT))) | (with_reducible refine isD_n ((D0.boxI false none 0 0 0 false none 0 0 0).drew.getN ?_); (repeat (first | (with_reducible exact mS) | apply mT))))); (· (first | (with_reducible refine isD_n (D.getN ?_); (repeat (first | (with_reducible exact mS) | apply mT))) | (with_reducible refine isD_n ((D.boxI false none 0 0 0 false none 0 0 0).getN ?_); (repeat (first | (with_reducible exact mS) | apply mT))) | (with_reducible refine isD_n ((D0.boxI false none 0 0 0 false none 0 0 0).drew.getN ?_); (repeat (first | (with_reducible exact mS) | apply mT))))); (· (first | (with_reducible exact HVW.out _ D.lq.below) | (with_reducible exact HVW.out _ (D.boxI false none 0 0 0 false none 0 0 0).lq.below) | (with_reducible exact HVW.out _ (D0.boxI false none 0 0 0 false none 0 0 0).drew.lq.below))); rintro e9 wh ⟨vh, rfl, ii, be⟩; obtain ⟨A9, c9, B9, d9, rfl, ia, ib⟩:=ii.form; (first | (replace D:=D.step be) | (replace D:=(D.boxMI hmd false none 0 0 0 false none 0 0 0).step be) | (replace D:=(D.boxI false none 0 0 0 false none 0 0 0).step be)); have hz:=be.size; (try simp at hz); replace D:=(D.n ib).n ia; (try (obtain ⟨x00,x01,x02,x03,x04,x05⟩:=D.lq.b0.a6; obtain ⟨y00,y01,y02,y03,y04,y05⟩:=D.lq.b0.f6)); (try obtain ⟨na, nb, nc, nd, nl⟩:=D.n0)) | (go_at_call 174; (with_reducible refine (G9.out _ _ _ ?_ ?_).mono ?_); (· (first | (with_reducible refine isI_n (D.getN ?_) (D.getN ?_) <;> (repeat (first | (with_reducible exact mS) | apply mT))) | (with_reducible refine isI_n ((D.boxI false none 0 0 0 false none 0 0 0).getN ?_) ((D.boxI false none 0 0 0 false none 0 0 0).getN ?_) <;> (repeat (first | (with_reducible exact mS) | apply mT))) | (with_reducible refine isI_n ((D0.boxI false none 0 0 0 false none 0 0 0).drew.getN ?_) ((D0.boxI false none 0 0 0 false none 0 0 0).drew.getN ?_) <;> (repeat (first | (with_reducible exact mS) | apply mT))))); (· (first | (with_reducible refine isI_n (D.getN ?_) (D.getN ?_) <;> (repeat (first | (with_reducible exact mS) | apply mT))) | (with_reducible refine isI_n ((D.boxI false none 0 0 0 false none 0 0 0).getN ?_) ((D.boxI false none 0 0 0 false none 0 0 0).getN ?_) <;> (repeat (first | (with_reducible exact mS) | apply mT))) | (with_reducible refine isI_n ((D0.boxI false none 0 0 0 false none 0 0 0).drew.getN ?_) ((D0.boxI false none 0 0 0 false none 0 0 0).drew.getN ?_) <;> (repeat (first | (with_reducible exact mS) | apply mT))))); rintro e9 wh ⟨vh, rfl, ii, be⟩; obtain ⟨Aa, ca, Ba, da, rfl, ia, ib⟩:=ii.form; (first | (replace D:=D.step be) | (replace D:=(D.boxMI hmd false none 0 0 0 false none 0 0 0).step be) | (replace D:=(D.boxI false none 0 0 0 false none 0 0 0).step be)); have hz:=be.size; (try simp at hz); replace D:=(D.n ib).n ia; (try (obtain ⟨x00,x01,x02,x03,x04,x05⟩:=D.lq.b0.a6; obtain ⟨y00,y01,y02,y03,y04,y05⟩:=D.lq.b0.f6)); (try obtain ⟨na, nb, nc, nd, nl⟩:=D.n0)))
   all_goals
    go_wp2_with fail
    go_meet
    first
    | ((with_reducible refine made1i_a D ?_ ?_) <;> (repeat (first | (with_reducible exact mS) | apply mT)))
    | ((with_reducible refine made1i_b D ?_ ?_) <;> (repeat (first | (with_reducible exact mS) | apply mT)))
  case rest =>
   obtain ⟨g6, Ab9, cb, Bb, db, rfl, hg9, bw, hb9, q1, q2⟩:=hcut
   have L:=(((LL.out.step bw).n q2).n q1).b hb9
   have hl_g6:=hg9
   clear D D0 hmd LL hb9 q1 q2 bw hg9 HVW Q0 Q1 Q2 Q3 Q4 Q5 Q6 Q7 Q8 Q9 Q10 Q11 hc0 hc1 hc2 hc3 hc4
   generalize wc = wd5 at *
   obtain ⟨c00,c01,c02,c03,c04,c05⟩:=L.b0.a6
   (try go_wp2_with fail)
   refine (G10.out _ _ (isI_n (m:=Xl) (e:=Fl) (n:=Xg) (f:=Fg) (s:=.slice Ab9 (zl Xl) cb) (t:=.slice Bb (zl Xg) db) (L.getN (by simp)) (L.getN (by simp))) L.below).mono ?_
   rintro e w7 ⟨v9, rfl, ii, be⟩
   clear c00 c01 c02 c03 c04 c05
   obtain ⟨Ac, cc, Bc, dc, rfl, ia, ib⟩:=ii.form
   replace L:=((L.step be).n ib).n ia
   clear be ii ia ib
   obtain ⟨c00,c01,c02,c03,c04,c05⟩:=L.b0.a6
   obtain ⟨f00,f01,f02,f03,f04,f05⟩:=L.b0.f6
   have P9:=L.putI (by omega) (by first | (simp; done) | (simp; omega)) (ng MA) Ac (zl MA) cc EA (ng MB) Bc (zl MB) dc EB
   unfold put6 at P9
   (try go_wp2_with fail)
   clear L
   have L:=P9
   clear P9
   clear c00 f00 c01 f01 c02 f02 c03 f03 c04 f04 c05 f05
   have L9:=L.subx (ns':=[(.slice A6 (zl MK) c6, MK.natAbs), (.slice Ac (zl MA) cc, MA.natAbs), (.slice Bc (zl MB) dc, MB.natAbs)]) (bs':=[(w.heap.size + 1 + 1, 28, #[.bool false, .slice none 0 0, .int .i64 0, .bool false, .slice none 0 0, .int .i64 0]), (g6, 28, #[.bool (ng MA), .slice Ac (zl MA) cc, .int .i64 EA, .bool (ng MB), .slice Bc (zl MB) dc, .int .i64 EB]), (g4, 26, #[.bool (ng MK), .slice A6 (zl MK) c6, .int .i64 EK])]) (by simp) (by simp)
   clear L
   have L:=L9.drew
   clear L9
   have nr1 : g6 ≠ w.heap.size + 1 + 1:=by omega
   have nr2 : g4 ≠ w.heap.size + 1 + 1:=by omega
   obtain ⟨c00,c01,c02,c03,c04,c05⟩:=L.b0.a6
   obtain ⟨f00,f01,f02,f03,f04,f05⟩:=L.b0.f6
   obtain ⟨c10,c11,c12,c13,c14,c15⟩:=L.tl.b0.a6
   obtain ⟨c20,c21,c22⟩:=L.tl.tl.b0.a3
   go_region_held3 (fun w' => w'.cell? ⟨g6, 0, none⟩ = some (.bool (ng MA)) ∧ w'.cell? ⟨g6, 1, none⟩ = some (.slice Ac (zl MA) cc) ∧ w'.cell? ⟨g6, 2, none⟩ = some (.int .i64 EA) ∧ w'.cell? ⟨g6, 3, none⟩ = some (.bool (ng MB)) ∧ w'.cell? ⟨g6, 4, none⟩ = some (.slice Bc (zl MB) dc) ∧ w'.cell? ⟨g6, 5, none⟩ = some (.int .i64 EB) ∧ w'.cell? ⟨g4, 0, none⟩ = some (.bool (ng MK)) ∧ w'.cell? ⟨g4, 1, none⟩ = some (.slice A6 (zl MK) c6) ∧ w'.cell? ⟨g4, 2, none⟩ = some (.int .i64 EK)) (first | (with_reducible exact ⟨L.tl.b0.c60, L.tl.b0.c61, L.tl.b0.c62, L.tl.b0.c63, L.tl.b0.c64, L.tl.b0.c65, L.tl.tl.b0.c30, L.tl.tl.b0.c31, L.tl.tl.b0.c32⟩) | (have LP:=L.putI (by omega) (by simp [nr1, nr2, Ne.symm nr1, Ne.symm nr2]) (ng MA) Ac (zl MA) cc EA (ng MB) Bc (zl MB) dc EB; unfold put6 at LP; with_reducible exact ⟨LP.tl.b0.c60, LP.tl.b0.c61, LP.tl.b0.c62, LP.tl.b0.c63, LP.tl.b0.c64, LP.tl.b0.c65, LP.tl.tl.b0.c30, LP.tl.tl.b0.c31, LP.tl.tl.b0.c32⟩) | exact ⟨L.tl.b0.c60, L.tl.b0.c61, L.tl.b0.c62, L.tl.b0.c63, L.tl.b0.c64, L.tl.b0.c65, L.tl.tl.b0.c30, L.tl.tl.b0.c31, L.tl.tl.b0.c32⟩) (first | (go_at_call 176; (with_reducible refine (G11.out _ _ ?_).mono ?_); (· (refine isD_n (L.getN ?_); (repeat (first | (with_reducible exact mS) | apply mT)))); rintro e wh ⟨rfl, be⟩; replace L:=L.step be; clear be; (try (obtain ⟨r00,r01,r02,r03,r04,r05⟩:=L.b0.a6; obtain ⟨z00,z01,z02,z03,z04,z05⟩:=L.b0.f6))))
   (try go_wp2_with fail)
   have LP:=L.putI (by omega) (by simp [nr1, nr2, Ne.symm nr1, Ne.symm nr2]) (ng MA) Ac (zl MA) cc EA (ng MB) Bc (zl MB) dc EB
   obtain ⟨k0,k1,k2,k3,k4,k5⟩:=LP.b0.a6
   unfold put6 at k0 k1 k2 k3 k4 k5
   exact bodyPost_ret (v:=.tuple #[.int .i64 KT, .agg #[.bool (ng MA), .slice Ac (zl MA) cc, .int .i64 EA, .bool (ng MB), .slice Bc (zl MB) dc, .int .i64 EB]]) (by simp [results, Tryz.results106, go_sem, k0, k1, k2, k3, k4, k5]) rfl ⟨_, rfl, isI_n (LP.getN (by simp)) (LP.getN (by simp)), LP.below⟩

theorem wp_storeRow {P : Program} (w : World) {ops : Array Oper} {rest : List Oper} {o : Oper} {a : Act} {Q : Exit → Act → World → Prop} (hg : o.guard = none) (t : TypeId) (p v : Operand) (hop : o.op = Op.store t p v) (g : Nat) (old c : Array Value)
  (hp : a.eval p = .pointer (some ⟨g, 0, none⟩)) (hv : a.eval v = .agg c) (hb : w.heap[g]? = some (.cells old t (0, 0))) (hi : (P.info? t).map (·.size) = some c.size) (ho : old.size = c.size) (h1 : c.all (·.oneCell') = true)
  (hK : wpList P ops Q rest (a.put o.dst undef) (w.setRow g c)) : wpList P ops Q (o :: rest) a w:=by
 refine wpList_plain hg fun K hK' => ?_
 have hrun : (Instr.storeAt t (.pointer (some ⟨g, 0, none⟩)) (.agg c)).run P w = .ok () (w.setRow g c):=by
  simp only [Instr.storeAt, Instr.sureAddr, Sem.run_bind, Sem.run_pure, Result.andThen]
  exact run_storeVar_row _ _ _ _ _ _ hb hi ho h1
 unfold Oper.wp
 simp [execOp, hop, hp, hv, hrun, Result.andThen]
 exact hK' _ _ hK
theorem Lq.row {w0 w : World} {ns : List (Value × Nat)} {zs : List (Value × Int)} {qs : List (Value × Int × Nat)} {bs : List (Nat × TypeId × Array Value)} {g : Nat} {t : TypeId} {cs : Array Value} (h : Lq w0 w ns zs qs ((g, t, cs) :: bs)) (hg : w0.heap.size ≤ g) (hd : ∀ p ∈ bs, p.1 ≠ g) (c : Array Value) (hp : Plain c) : Lq w0 (w.setRow g c) ns zs qs ((g, t, c) :: bs):=by
 have hgl:=h.b0.lt
 have hso : ∀ k, k ≠ g → (w.setRow g c).heap[k]? = w.heap[k]?:=fun k hk => by
  unfold World.setRow
  simp only
  rw [Array.getElem?_modify, if_neg (fun e => hk e.symm)]
 have hss : (w.setRow g c).heap.size = w.heap.size:=by
  unfold World.setRow
  simp
 have hsg : (w.setRow g c).heap[g]? = some (.cells c t (0, 0)):=by
  unfold World.setRow
  simp only
  rw [Array.getElem?_modify, if_pos rfl, h.b0.1]
  rfl
 have hN : ∀ {v : Value} {x : Nat}, IsN w v x → IsN (w.setRow g c) v x:=fun {v x} hv => by
  obtain ⟨A, n, k, e, hs⟩:=hv
  refine ⟨A, n, k, e, ⟨hs.len, hs.cap, hs.most, hs.small, fun hn => ?_⟩⟩
  obtain ⟨b, off, h1, h2, h3⟩:=hs.place hn
  have hne : b ≠ g:=by
   rintro rfl
   have h4:=h3 0 hn
   rw [h.b0.cell] at h4
   exact h.b0.2 _ _ h4
  refine ⟨b, off, h1, by rw [hss]; exact h2, fun i hi => ?_⟩
  rw [World.cell?_of_block (w:=w) (a:=⟨b, off + i, none⟩) (hso b hne)]
  exact h3 i hi
 refine ⟨?_, fun p hp2 => hN (h.ns p hp2), fun p hp2 => ?_, fun p hp2 => ?_, all_cons (P:=fun p : Nat × TypeId × Array Value => Var _ p.1 p.2.1 p.2.2) ⟨hsg, hp⟩ (fun p hp2 => ⟨?_, (h.bs p (List.mem_cons_of_mem _ hp2)).2⟩)⟩
 ·exact h.below.trans ⟨rfl, rfl, rfl, by rw [hss]; exact Nat.le_refl _, fun k hk => hso k (by omega)⟩
 ·obtain ⟨s, e, hs⟩:=h.zs p hp2
  exact ⟨s, e, hN hs⟩
 ·obtain ⟨s, r, e, hs, hr⟩:=h.qs p hp2
  exact ⟨s, r, e, hN hs, hN hr⟩
 ·rw [hso _ (hd p hp2)]
  exact (h.bs p (List.mem_cons_of_mem _ hp2)).1

def put5 (w : World) (g : Nat) (x0 x1 x2 x3 x4 : Value) : World:=((((w.setCell ⟨g, 0, none⟩ x0).setCell ⟨g, 1, none⟩ x1).setCell ⟨g, 2, none⟩ x2).setCell ⟨g, 3, none⟩ x3).setCell ⟨g, 4, none⟩ x4
theorem Lq.putDi {w0 w : World} {ns : List (Value × Nat)} {zs : List (Value × Int)} {qs : List (Value × Int × Nat)} {bs : List (Nat × TypeId × Array Value)} {g : Nat} {y0 y1 y2 y3 y4 : Value} (h : Lq w0 w ns zs qs ((g, 150, #[y0, y1, y2, y3, y4]) :: bs)) (hg : w0.heap.size ≤ g) (hd : ∀ p ∈ bs, p.1 ≠ g) (t : Int) (b : Bool) (A : Option Addr) (n c : Nat) (e p : Int) :
  Lq w0 (put5 w g (.int .i64 t) (.bool b) (.slice A n c) (.int .i64 e) (.int .i64 p)) ns zs qs ((g, 150, #[.int .i64 t, .bool b, .slice A n c, .int .i64 e, .int .i64 p]) :: bs):=
 ((((h.set hg hd 0 (.int .i64 t) (by intro x e; cases e)).set hg hd 1 (.bool b) (by intro x e; cases e)).set hg hd 2 (.slice A n c) (by intro x e; cases e)).set hg hd 3 (.int .i64 e) (by intro x e; cases e)).set hg hd 4 (.int .i64 p) (by intro x e; cases e)
def RetDi (w : World) (t m e p : Int) (en : Ending) (w' : World) : Prop:=∃ v, en = .returned v ∧ IsX w' v t m e p ∧ Below w.heap.size w w'

theorem ytow_any (m e T : Int) (P p : Nat) (vx vp : Value) (w : World) (hx : IsD w vx m e) (hp9 : IsI w vp (mkM (loC T) (-(P : Int))) (mkE (loC T) (-(P : Int))) (mkM (hiC T) (-(P : Int))) (mkE (hiC T) (-(P : Int)))) (lm : zl m ≤ 20) (he : -900 ≤ e ∧ e ≤ 900) (hv : Dv m e) (hd : Ab (dq m e) 4294967296) (hPp : P = p + 32) (hp : 12 ≤ p) (hp2 : p ≤ 240) (h1 : dq (loC T) (-(P : Int)) ≤ piQ) (h2 : piQ ≤ dq (hiC T) (-(P : Int))) (h3 : hiC T ≤ loC T + 2) (hT : Tab w) :
  Calls Tryz.prog 145 #[vx, vp, .int .i64 (p : Int)] w (RetDi w (rdK (2 * dq m e) T P) (mkM (rdA (dq m e) T P p) (-(p : Int))) (mkE (rdA (dq m e) T P p) (-(p : Int))) p):=by
 obtain ⟨A, c, rfl, _, hn1⟩:=hx.form
 obtain ⟨B, d, C, d3, rfl, hn2, hn3⟩:=hp9.form
 have L0:=(((Lq.mk0 w).n hn3).n hn2).n hn1
 have g1:=fun x y W h j (hW : Below w.heap.size w W) => yred_any m e T P p x y W h j lm he hv hd hPp hp hp2 h1 h2 h3 (hT.mono hW)
 clear lm he hv hd hPp hp hp2 h1 h2 h3 hT hx hp9 hn1 hn2 hn3
 generalize mkM (rdA (dq m e) T P p) (-(p : Int)) = MA at *
 generalize mkE (rdA (dq m e) T P p) (-(p : Int)) = EA at *
 generalize mkM (rdB (dq m e) T P p) (-(p : Int)) = MB at *
 generalize mkE (rdB (dq m e) T P p) (-(p : Int)) = EB at *
 generalize mkM (loC T) (-(P : Int)) = ML at *
 generalize mkE (loC T) (-(P : Int)) = EL at *
 generalize mkM (hiC T) (-(P : Int)) = MU at *
 generalize mkE (hiC T) (-(P : Int)) = EU at *
 generalize (rdK (2 * dq m e) T P) = KT at *
 have G1:=Hd9 g1
 clear g1
 go_enter Tryz.func145, Tryz.ntmps145
 have L:=(((L0.varD (w.heap.size) (by simp) (ng m) A (zl m) c e).varI (w.heap.size + 1) (by simp) (ng ML) B (zl ML) d EL (ng MU) C (zl MU) d3 EU).varDi (w.heap.size + 2) (by simp) 0 false none 0 0 0 0)
 obtain ⟨c10,c11,c12,c13,c14,c15⟩:=L.tl.b0.a6
 obtain ⟨c20,c21,c22⟩:=L.tl.tl.b0.a3
 (try go_wp2_with fail)
 refine (G1.out _ _ _ (isD_n (m:=m) (e:=e) (s:=.slice A (zl m) c) (L.getN (by simp))) (isI_n (m:=ML) (e:=EL) (n:=MU) (f:=EU) (s:=.slice B (zl ML) d) (t:=.slice C (zl MU) d3) (L.getN (by simp)) (L.getN (by simp))) L.below).mono ?_
 rintro e w1 ⟨v9, rfl, ii, be⟩
 clear c10 c11 c12 c13 c14 c15 c20 c21 c22
 obtain ⟨A5, c5, B5, d5, rfl, ia, ib⟩:=ii.form
 replace L:=((L.step be).n ib).n ia
 clear be ii ia ib
 have hl9:=L.b0.lt
 have nr1 : w1.heap.size ≠ w.heap.size + 1 + 1:=by omega
 replace L:=L.varI w1.heap.size rfl (ng MA) A5 (zl MA) c5 EA (ng MB) B5 (zl MB) d5 EB
 obtain ⟨c00,c01,c02,c03,c04,c05⟩:=L.b0.a6
 have hb9:=L.tl.b0.1
 go_wp2_with (refine wp_storeRow _ rfl 150 _ _ rfl (w.heap.size + 1 + 1) #[.int .i64 0, .bool false, .slice none 0 0, .int .i64 0, .int .i64 0] #[.int .i64 KT, .bool (ng MA), .slice A5 (zl MA) c5, .int .i64 EA, .int .i64 (p : Int)] rfl rfl hb9 (by kernel_rfl) rfl (by simp [Value.oneCell']) ?_)
 clear hb9
 clear c00 c01 c02 c03 c04 c05
 have L9:=L.subx (ns':=[(.slice A5 (zl MA) c5, MA.natAbs)]) (bs':=[(w.heap.size + 1 + 1, 150, #[.int .i64 0, .bool false, .slice none 0 0, .int .i64 0, .int .i64 0]), (w1.heap.size, 28, #[.bool (ng MA), .slice A5 (zl MA) c5, .int .i64 EA, .bool (ng MB), .slice B5 (zl MB) d5, .int .i64 EB])]) (by simp) (by simp)
 clear L
 have L:=L9
 clear L9
 have LP:=L.row (by omega) (by simp [nr1, Ne.symm nr1]) #[.int .i64 KT, .bool (ng MA), .slice A5 (zl MA) c5, .int .i64 EA, .int .i64 (p : Int)] (plainDi _ _ _ _ _ _ _)
 have k0:=LP.b0.c50
 have k1:=LP.b0.c51
 have k2:=LP.b0.c52
 have k3:=LP.b0.c53
 have k4:=LP.b0.c54
 exact bodyPost_ret (v:=.agg #[.int .i64 KT, .bool (ng MA), .slice A5 (zl MA) c5, .int .i64 EA, .int .i64 (p : Int)]) (by simp [results, Tryz.results145, go_sem, k0, k1, k2, k3, k4]) rfl ⟨_, rfl, isX_n (LP.getN (by simp)), LP.below⟩
theorem and_3 (t : Int) : IntKind.i64.wrap (((BitVec.ofInt 64 t) &&& (BitVec.ofInt 64 3)).toNat : Int) = t % 4:=by
 have e : ((BitVec.ofInt 64 t) &&& (BitVec.ofInt 64 3)).toNat = (t % 4).toNat:=by
  rw [BitVec.toNat_and, BitVec.toNat_ofInt, BitVec.toNat_ofInt, show ((3 : Int) % ((2 ^ 64 : Nat) : Int)).toNat = 2 ^ 2 - 1 by decide, Nat.and_two_pow_sub_one_eq_mod]
  omega
 rw [e, IntKind.wrap_i64]
 omega
theorem bits_3 (t : Int) : bits .and .i64 t 3 = t % 4:=and_3 t

theorem ypass_any (t1 m1 e1 t2 m2 e2 x : Int) (p : Nat) (vx vy : Value) (w : World) (hx : IsX w vx t1 m1 e1 (p : Int)) (hy : IsX w vy t2 m2 e2 (p : Int)) (l1 : zl m1 ≤ 100) (l2 : zl m2 ≤ 100) (b1 : -10000000000 ≤ t1 ∧ t1 ≤ 10000000000) (b2 : -10000000000 ≤ t2 ∧ t2 ≤ 10000000000) (hx0 : 0 ≤ x ∧ x ≤ 10) :
  Calls Tryz.prog 202 #[vx, vy, .int .i64 x] w (RetB w (pass x (t1 + (if 0 < m1 then 1 else 0)) (t2 - (if m2 < 0 then 1 else 0)))):=by
 obtain ⟨A, c, rfl, hn⟩:=hx.form
 obtain ⟨B, d, rfl, hn2⟩:=hy.form
 have L0:=((Lq.mk0 w).n hn2).n hn
 have g1:=fun v W h => dsign_any m1 e1 v W h (by omega)
 have g2:=fun v W h => dsign_any m2 e2 v W h (by omega)
 have q1 : (0 < cmpI m1 0) ↔ 0 < m1:=by unfold cmpI; (repeat' split) <;> omega
 have q2 : (cmpI m2 0 < 0) ↔ m2 < 0:=by unfold cmpI; (repeat' split) <;> omega
 obtain ⟨n1, hn1⟩:=nm9 (t1 + (if 0 < m1 then 1 else 0))
 obtain ⟨n2, hn2'⟩:=nm9 (t2 - (if m2 < 0 then 1 else 0))
 rw [hn1, hn2']
 have r1 : -10000000001 ≤ n1 ∧ n1 ≤ 10000000001:=by split at hn1 <;> omega
 have r2 : -10000000001 ≤ n2 ∧ n2 ≤ 10000000001:=by split at hn2' <;> omega
 have w1 : IntKind.i64.wrap (x - n1) = x - n1:=by rw [IntKind.wrap_i64]; omega
 have w2:=bits_3 (x - n1)
 have w3 : IntKind.i64.wrap (n1 + (x - n1) % 4) = n1 + (x - n1) % 4:=by rw [IntKind.wrap_i64]; omega
 obtain ⟨s1, hs1⟩:=nm9 (cmpI m1 0)
 obtain ⟨s2, hs2⟩:=nm9 (cmpI m2 0)
 rw [hs1] at g1 q1
 rw [hs2] at g2 q2
 have G1:=Hd9 g1
 have G2:=Hd9 g2
 have hps : pass x n1 n2 = decide (n1 + (x - n1) % 4 ≤ n2):=rfl
 rw [hps]
 clear g1 g2 hs1 hs2 hps hx hy l1 l2 hn hn2
 by_cases p1 : 0 < m1
 ·rw [if_pos p1] at hn1
  have d1 : decide (0 < s1) = true:=decide_eq_true (q1.2 p1)
  have w4 : IntKind.i64.wrap (t1 + 1) = n1:=by rw [IntKind.wrap_i64]; omega
  by_cases p2 : m2 < 0
  ·rw [if_pos p2] at hn2'
   have d2 : decide (s2 < 0) = true:=decide_eq_true (q2.2 p2)
   have w5 : IntKind.i64.wrap (t2 - 1) = n2:=by rw [IntKind.wrap_i64]; omega
   clear hn1 hn2' q1 q2 p1 p2
   go_enter Tryz.func202, Tryz.ntmps202
   have L:=((L0.varDi (w.heap.size) (by simp) t1 (ng m1) A (zl m1) c e1 (p : Int)).varDi (w.heap.size + 1) (by simp) t2 (ng m2) B (zl m2) d e2 (p : Int))
   replace L:=L.drew
   have c00:=L.b0.c50
   have c01:=L.b0.c51
   have c02:=L.b0.c52
   have c03:=L.b0.c53
   have c04:=L.b0.c54
   have c10:=L.tl.b0.c50
   have c11:=L.tl.b0.c51
   have c12:=L.tl.b0.c52
   have c13:=L.tl.b0.c53
   have c14:=L.tl.b0.c54
   (try go_wp2_with fail)
   go_region_held3 (fun w' => w'.cell? ⟨w.heap.size, 0, none⟩ = some (.int .i64 t1) ∧ w'.cell? ⟨w.heap.size + 1, 0, none⟩ = some (.int .i64 t2)) (exact ⟨c10, c00⟩) (fail)
   (try go_wp2_with fail)
   refine (G1.out _ _ (isD_n (m:=m1) (e:=e1) (s:=.slice A (zl m1) c) (L.getN (by simp)))).mono ?_
   rintro e w1 ⟨rfl, be⟩
   clear c00 c01 c02 c03 c04 c10 c11 c12 c13 c14
   replace L:=L.step be
   clear be
   have c00:=L.b0.c50
   have c01:=L.b0.c51
   have c02:=L.b0.c52
   have c03:=L.b0.c53
   have c04:=L.b0.c54
   have c10:=L.tl.b0.c50
   have c11:=L.tl.b0.c51
   have c12:=L.tl.b0.c52
   have c13:=L.tl.b0.c53
   have c14:=L.tl.b0.c54
   (try go_wp2_with fail)
   refine (G2.out _ _ (isD_n (m:=m2) (e:=e2) (s:=.slice B (zl m2) d) (L.getN (by simp)))).mono ?_
   rintro e w2 ⟨rfl, be⟩
   clear c00 c01 c02 c03 c04 c10 c11 c12 c13 c14
   replace L:=L.step be
   clear be
   have c00:=L.b0.c50
   have c01:=L.b0.c51
   have c02:=L.b0.c52
   have c03:=L.b0.c53
   have c04:=L.b0.c54
   have c10:=L.tl.b0.c50
   have c11:=L.tl.b0.c51
   have c12:=L.tl.b0.c52
   have c13:=L.tl.b0.c53
   have c14:=L.tl.b0.c54
   (try go_wp2_with fail)
   (try go_ret)
   exact ⟨rfl, L.below⟩
  ·rw [if_neg p2] at hn2'
   have d2 : decide (s2 < 0) = false:=decide_eq_false (fun h => p2 (q2.1 h))
   obtain rfl : t2 = n2:=by omega
   clear hn1 hn2' q1 q2 p1 p2
   go_enter Tryz.func202, Tryz.ntmps202
   have L:=((L0.varDi (w.heap.size) (by simp) t1 (ng m1) A (zl m1) c e1 (p : Int)).varDi (w.heap.size + 1) (by simp) t2 (ng m2) B (zl m2) d e2 (p : Int))
   replace L:=L.drew
   have c00:=L.b0.c50
   have c01:=L.b0.c51
   have c02:=L.b0.c52
   have c03:=L.b0.c53
   have c04:=L.b0.c54
   have c10:=L.tl.b0.c50
   have c11:=L.tl.b0.c51
   have c12:=L.tl.b0.c52
   have c13:=L.tl.b0.c53
   have c14:=L.tl.b0.c54
   (try go_wp2_with fail)
   go_region_held3 (fun w' => w'.cell? ⟨w.heap.size, 0, none⟩ = some (.int .i64 t1) ∧ w'.cell? ⟨w.heap.size + 1, 0, none⟩ = some (.int .i64 t2)) (exact ⟨c10, c00⟩) (fail)
   (try go_wp2_with fail)
   refine (G1.out _ _ (isD_n (m:=m1) (e:=e1) (s:=.slice A (zl m1) c) (L.getN (by simp)))).mono ?_
   rintro e w1 ⟨rfl, be⟩
   clear c00 c01 c02 c03 c04 c10 c11 c12 c13 c14
   replace L:=L.step be
   clear be
   have c00:=L.b0.c50
   have c01:=L.b0.c51
   have c02:=L.b0.c52
   have c03:=L.b0.c53
   have c04:=L.b0.c54
   have c10:=L.tl.b0.c50
   have c11:=L.tl.b0.c51
   have c12:=L.tl.b0.c52
   have c13:=L.tl.b0.c53
   have c14:=L.tl.b0.c54
   (try go_wp2_with fail)
   refine (G2.out _ _ (isD_n (m:=m2) (e:=e2) (s:=.slice B (zl m2) d) (L.getN (by simp)))).mono ?_
   rintro e w2 ⟨rfl, be⟩
   clear c00 c01 c02 c03 c04 c10 c11 c12 c13 c14
   replace L:=L.step be
   clear be
   have c00:=L.b0.c50
   have c01:=L.b0.c51
   have c02:=L.b0.c52
   have c03:=L.b0.c53
   have c04:=L.b0.c54
   have c10:=L.tl.b0.c50
   have c11:=L.tl.b0.c51
   have c12:=L.tl.b0.c52
   have c13:=L.tl.b0.c53
   have c14:=L.tl.b0.c54
   (try go_wp2_with fail)
   (try go_ret)
   exact ⟨rfl, L.below⟩
 ·rw [if_neg p1] at hn1
  have d1 : decide (0 < s1) = false:=decide_eq_false (fun h => p1 (q1.1 h))
  obtain rfl : t1 = n1:=by omega
  by_cases p2 : m2 < 0
  ·rw [if_pos p2] at hn2'
   have d2 : decide (s2 < 0) = true:=decide_eq_true (q2.2 p2)
   have w5 : IntKind.i64.wrap (t2 - 1) = n2:=by rw [IntKind.wrap_i64]; omega
   clear hn1 hn2' q1 q2 p1 p2
   go_enter Tryz.func202, Tryz.ntmps202
   have L:=((L0.varDi (w.heap.size) (by simp) t1 (ng m1) A (zl m1) c e1 (p : Int)).varDi (w.heap.size + 1) (by simp) t2 (ng m2) B (zl m2) d e2 (p : Int))
   replace L:=L.drew
   have c00:=L.b0.c50
   have c01:=L.b0.c51
   have c02:=L.b0.c52
   have c03:=L.b0.c53
   have c04:=L.b0.c54
   have c10:=L.tl.b0.c50
   have c11:=L.tl.b0.c51
   have c12:=L.tl.b0.c52
   have c13:=L.tl.b0.c53
   have c14:=L.tl.b0.c54
   (try go_wp2_with fail)
   go_region_held3 (fun w' => w'.cell? ⟨w.heap.size, 0, none⟩ = some (.int .i64 t1) ∧ w'.cell? ⟨w.heap.size + 1, 0, none⟩ = some (.int .i64 t2)) (exact ⟨c10, c00⟩) (fail)
   (try go_wp2_with fail)
   refine (G1.out _ _ (isD_n (m:=m1) (e:=e1) (s:=.slice A (zl m1) c) (L.getN (by simp)))).mono ?_
   rintro e w1 ⟨rfl, be⟩
   clear c00 c01 c02 c03 c04 c10 c11 c12 c13 c14
   replace L:=L.step be
   clear be
   have c00:=L.b0.c50
   have c01:=L.b0.c51
   have c02:=L.b0.c52
   have c03:=L.b0.c53
   have c04:=L.b0.c54
   have c10:=L.tl.b0.c50
   have c11:=L.tl.b0.c51
   have c12:=L.tl.b0.c52
   have c13:=L.tl.b0.c53
   have c14:=L.tl.b0.c54
   (try go_wp2_with fail)
   refine (G2.out _ _ (isD_n (m:=m2) (e:=e2) (s:=.slice B (zl m2) d) (L.getN (by simp)))).mono ?_
   rintro e w2 ⟨rfl, be⟩
   clear c00 c01 c02 c03 c04 c10 c11 c12 c13 c14
   replace L:=L.step be
   clear be
   have c00:=L.b0.c50
   have c01:=L.b0.c51
   have c02:=L.b0.c52
   have c03:=L.b0.c53
   have c04:=L.b0.c54
   have c10:=L.tl.b0.c50
   have c11:=L.tl.b0.c51
   have c12:=L.tl.b0.c52
   have c13:=L.tl.b0.c53
   have c14:=L.tl.b0.c54
   (try go_wp2_with fail)
   (try go_ret)
   exact ⟨rfl, L.below⟩
  ·rw [if_neg p2] at hn2'
   have d2 : decide (s2 < 0) = false:=decide_eq_false (fun h => p2 (q2.1 h))
   obtain rfl : t2 = n2:=by omega
   clear hn1 hn2' q1 q2 p1 p2
   go_enter Tryz.func202, Tryz.ntmps202
   have L:=((L0.varDi (w.heap.size) (by simp) t1 (ng m1) A (zl m1) c e1 (p : Int)).varDi (w.heap.size + 1) (by simp) t2 (ng m2) B (zl m2) d e2 (p : Int))
   replace L:=L.drew
   have c00:=L.b0.c50
   have c01:=L.b0.c51
   have c02:=L.b0.c52
   have c03:=L.b0.c53
   have c04:=L.b0.c54
   have c10:=L.tl.b0.c50
   have c11:=L.tl.b0.c51
   have c12:=L.tl.b0.c52
   have c13:=L.tl.b0.c53
   have c14:=L.tl.b0.c54
   (try go_wp2_with fail)
   go_region_held3 (fun w' => w'.cell? ⟨w.heap.size, 0, none⟩ = some (.int .i64 t1) ∧ w'.cell? ⟨w.heap.size + 1, 0, none⟩ = some (.int .i64 t2)) (exact ⟨c10, c00⟩) (fail)
   (try go_wp2_with fail)
   refine (G1.out _ _ (isD_n (m:=m1) (e:=e1) (s:=.slice A (zl m1) c) (L.getN (by simp)))).mono ?_
   rintro e w1 ⟨rfl, be⟩
   clear c00 c01 c02 c03 c04 c10 c11 c12 c13 c14
   replace L:=L.step be
   clear be
   have c00:=L.b0.c50
   have c01:=L.b0.c51
   have c02:=L.b0.c52
   have c03:=L.b0.c53
   have c04:=L.b0.c54
   have c10:=L.tl.b0.c50
   have c11:=L.tl.b0.c51
   have c12:=L.tl.b0.c52
   have c13:=L.tl.b0.c53
   have c14:=L.tl.b0.c54
   (try go_wp2_with fail)
   refine (G2.out _ _ (isD_n (m:=m2) (e:=e2) (s:=.slice B (zl m2) d) (L.getN (by simp)))).mono ?_
   rintro e w2 ⟨rfl, be⟩
   clear c00 c01 c02 c03 c04 c10 c11 c12 c13 c14
   replace L:=L.step be
   clear be
   have c00:=L.b0.c50
   have c01:=L.b0.c51
   have c02:=L.b0.c52
   have c03:=L.b0.c53
   have c04:=L.b0.c54
   have c10:=L.tl.b0.c50
   have c11:=L.tl.b0.c51
   have c12:=L.tl.b0.c52
   have c13:=L.tl.b0.c53
   have c14:=L.tl.b0.c54
   (try go_wp2_with fail)
   (try go_ret)
   exact ⟨rfl, L.below⟩
structure SyJ (X Q : Int) (p j : Nat) (MT ET MS ES : Int) : Prop where
 b : j = 0 ∨ 20 * (j - 1) ≤ p + 40
 mt : mkM (snT X Q p j) (-(p : Int)) = MT
 et : mkE (snT X Q p j) (-(p : Int)) = ET
 ms : mkM (snS X Q p j) (-(p : Int)) = MS
 es : mkE (snS X Q p j) (-(p : Int)) = ES
theorem sS_ab {X Q : Int} {p j : Nat} (h : SeX X Q p) (hj : j ≤ 16) : AbP (snS X Q p j) (p + 4):=by
 have a:=snS_ab h j
 unfold AbP
 refine Nat.le_trans a ?_
 rw [Nat.pow_add, Nat.mul_comm]
 exact Nat.mul_le_mul_left _ (by omega)

theorem yser_any (X Q : Int) (p : Nat) (vx : Value) (w : World) (hx : IsA w vx (mkM X (-(p : Int))) (mkE X (-(p : Int))) (p : Int)) (hX : SeX X Q p) (hp : p ≤ 240) (hT : Tab w) :
  Calls Tryz.prog 258 #[vx] w (RetD8 w (mkM (snS X Q p 15) (-(p : Int))) (mkE (snS X Q p 15) (-(p : Int)))):=by
 obtain ⟨A, c, rfl, hn⟩:=hx.form
 have L0:=(Lq.mk0 w).n hn
 have HT:=Hd9 (fun W (hW : Below w.heap.size w W) => hT.mono hW)
 have HX:=Hd9 hX
 have HP:=Hd9 hp
 have aX : AbP X p:=se_ab hX 0
 have aQ : AbP Q p:=by
  have qq:=hX.qb
  have e : ((2 ^ p : Nat) : Int) = 2 ^ p:=by push_cast; rfl
  unfold AbP
  omega
 obtain ⟨n1, n2, n3, n4, n5⟩:=nx (x := -(p : Int)) aX (by omega) (by omega)
 obtain ⟨q1, q2, q3, q4, q5⟩:=nx (x := -(p : Int)) aQ (by omega) (by omega)
 have g1:=fun x y W h j (hW : Below w.heap.size w W) => yprod_any (mkM X (-(p : Int))) (mkE X (-(p : Int))) (mkM X (-(p : Int))) (mkE X (-(p : Int))) Q p x y W h j (by omega) (by omega) (by omega) (by omega) (by rw [n5, cut_fl]; exact hX.q.symm) (aQ.up (by omega)) (by omega) (hT.mono hW)
 have G1:=Hd9 g1
 have HQ:=Hd9 (And.intro q2 (And.intro q3 q5))
 have HJ0:=Hd9 (show SyJ X Q p 0 (mkM X (-(p : Int))) (mkE X (-(p : Int))) 0 0 from ⟨Or.inl rfl, rfl, rfl, (nx_zero (by omega)).1, (nx_zero (by omega)).2⟩)
 clear g1 n1 n2 n3 n4 n5 q1 q2 q3 q4 q5 aX aQ hX hT hx hn
 obtain ⟨M0, hM0⟩:=nm9 (mkM X (-(p : Int)))
 rw [hM0] at G1 L0 HJ0 ⊢
 clear hM0
 obtain ⟨E0, hE0⟩:=nm9 (mkE X (-(p : Int)))
 rw [hE0] at G1 HJ0 ⊢
 clear hE0
 obtain ⟨MQ, hMQ⟩:=nm9 (mkM Q (-(p : Int)))
 rw [hMQ] at G1 HQ
 clear hMQ
 obtain ⟨EQ, hEQ⟩:=nm9 (mkE Q (-(p : Int)))
 rw [hEQ] at G1 HQ
 clear hEQ
 go_enter Tryz.func258, Tryz.ntmps258
 have L:=((L0.varAn (w.heap.size) (by simp) (ng M0) A (zl M0) c E0 (p : Int)).varD (w.heap.size + 1) (by simp) false none 0 0 0)
 obtain ⟨c10,c11,c12,c13⟩:=L.tl.b0.a4
 (try go_wp2_with fail)
 refine (G1.out _ _ _ (isD_n (m:=M0) (e:=E0) (s:=.slice A (zl M0) c) (L.getN (by simp))) (isD_n (m:=M0) (e:=E0) (s:=.slice A (zl M0) c) (L.getN (by simp))) L.below).mono ?_
 rintro e w1 ⟨v9, rfl, iz, be⟩
 clear c10 c11 c12 c13
 obtain ⟨A1, c1, rfl, _, in9⟩:=iz.form
 replace L:=(L.step be).n in9
 clear be iz in9
 have hl9:=L.b0.lt
 obtain ⟨gq, hgq⟩:=nm9 (w1.heap.size)
 have L1:=L.varD gq hgq.symm (ng MQ) A1 (zl MQ) c1 EQ
 have L2:=L1.varD (gq + 1) (by simp; omega) false none 0 0 0
 have L3:=L2.varD (gq + 2) (by simp; omega) (ng M0) A (zl M0) c E0
 rw [hgq] at hl9
 obtain ⟨u0,u1,u2⟩:=L1.b0.a3
 obtain ⟨v0,v1,v2⟩:=L2.b0.a3
 obtain ⟨y0,y1,y2⟩:=L3.b0.a3
 obtain ⟨z0,z1,z2⟩:=L.b0.a3
 obtain ⟨x0,x1,x2,x3⟩:=L2.tl.tl.tl.b0.a4
 have hsz : w1.heap.size = gq:=hgq
 go_wp2_with fail
 clear u0 u1 u2 v0 v1 v2 y0 y1 y2 z0 z1 z2 x0 x1 x2 x3
 have hgr : w.heap.size + 1 < gq:=hl9
 clear hsz hl9 L L1 L2
 go_loopw [6] (fun i wr => ∃ (j : Nat) (MT ET MS ES : Int) (B C : Option Addr) (d d2 : Nat), i = .int .i64 (2 * (j : Int) + 2) ∧ Lq w wr [(.slice B (zl MT) d, MT.natAbs), (.slice C (zl MS) d2, MS.natAbs), (.slice A1 (zl MQ) c1, MQ.natAbs), (.slice A (zl M0) c, M0.natAbs)] [] [] [(gq + 2, 26, #[.bool (ng MT), .slice B (zl MT) d, .int .i64 ET]), (gq + 1, 26, #[.bool (ng MS), .slice C (zl MS) d2, .int .i64 ES]), (gq, 26, #[.bool (ng MQ), .slice A1 (zl MQ) c1, .int .i64 EQ]), (w.heap.size + 1, 26, #[.bool false, .slice none 0 0, .int .i64 0]), (w.heap.size, 148, #[.bool (ng M0), .slice A (zl M0) c, .int .i64 E0, .int .i64 (p : Int)])] ∧ Hid (SyJ X Q p j MT ET MS ES)) (fun i _ => (2000 - intOf i).toNat)
 case atStart =>
  refine ⟨0, M0, E0, 0, 0, A, none, c, 0, by go_num, ?_, HJ0⟩
  have zz0 : zl 0 = 0:=zl_zero
  have nn0 : ng 0 = false:=rfl
  rw [zz0, nn0]
  exact (L3.n (IsN.zero _)).subx (by simp) (by simp)
 case round =>
  clear L3 HJ0
  obtain ⟨j, MT, ET, MS, ES, B, C, d, d2, rfl, L, HJ⟩:=hrel
  have hX:=HX.out
  have hp:=HP.out
  obtain ⟨hb, hmt, het, hms, hes⟩:=HJ.out
  have hj16 : j ≤ 15:=by omega
  have aT : AbP (snT X Q p j) p:=se_ab hX j
  have aS:=sS_ab hX (show j ≤ 16 by omega)
  obtain ⟨t1, t2, t3, t4, t5⟩:=nx (x := -(p : Int)) aT (by omega) (by omega)
  obtain ⟨s1, s2, s3, s4, s5⟩:=nx (x := -(p : Int)) aS (by omega) (by omega)
  have hz:=mk_z t1
  rw [hmt] at t2 t4 t5 hz
  rw [het] at t3 t4 t5
  rw [hms] at s2 s4 s5
  rw [hes] at s3 s4 s5
  have gs:=fun v W h => dsign_any MT ET v W h (by omega)
  obtain ⟨sg, hsg⟩:=nm9 (cmpI MT 0)
  have hc:=cmp_z (x:=MT)
  rw [hsg] at gs hc
  have hl0:=L.b0.lt
  by_cases hz0 : sg = 0
  ·subst hz0
   have GS:=Hd9 gs
   have hend:=hz.1 (hc.1 rfl)
   have hla:=sn_last hend hj16
   have HRX:=Hd9 (show mkM (snS X Q p 15) (-(p : Int)) = MS ∧ mkE (snS X Q p 15) (-(p : Int)) = ES by rw [hla, hms, hes]; exact ⟨rfl, rfl⟩)
   clear gs hz hc hsg hend hla hX hp hb hmt het hms hes hj16 aT aS t1 t2 t3 t4 t5 s1 s2 s3 s4 s5 HJ
   obtain ⟨cel00,cel01,cel02⟩:=L.b0.a3
   (try go_wp2_with fail)
   refine (GS.out _ _ (isD_n (m:=MT) (e:=ET) (s:=.slice B (zl MT) d) (L.getN (by simp)))).mono ?_
   rintro e w41 ⟨rfl, be⟩
   clear cel00 cel01 cel02
   replace L:=L.step be
   clear be
   have hv9:=L.tl.b0
   have hl9:=hv9.lt
   have L9:=L.subx (ns':=[(.slice C (zl MS) d2, MS.natAbs)]) (bs':=[(w.heap.size + 1, 26, #[.bool false, .slice none 0 0, .int .i64 0]), (gq + 1, 26, #[.bool (ng MS), .slice C (zl MS) d2, .int .i64 ES])]) (by simp) (by simp)
   clear L hv9
   have L:=L9
   clear L9
   have n9 : w.heap.size + 1 ≠ gq + 1:=by omega
   obtain ⟨cel00,cel01,cel02⟩:=L.b0.a3
   obtain ⟨f00,f01,f02⟩:=L.b0.f3
   obtain ⟨cel10,cel11,cel12⟩:=L.tl.b0.a3
   (try go_wp2_with fail)
   clear cel00 f00 cel01 f01 cel02 f02 cel10 cel11 cel12
   have LP:=L.putD (by omega) (by first | (simp; done) | (simp; omega)) (ng MS) C (zl MS) d2 (ES)
   obtain ⟨k0,k1,k2⟩:=LP.b0.a3
   unfold put3 at k0 k1 k2
   exact bodyPost_ret (v:=.agg #[.bool (ng MS), .slice C (zl MS) d2, .int .i64 (ES)]) (by simp [results, Tryz.results258, go_sem, k0, k1, k2]) rfl ⟨_, rfl, by rw [HRX.out.1, HRX.out.2]; exact isD_n (LP.getN (by simp)), LP.below⟩
  ·have GS:=Hd9 gs
   have hpz : snT X Q p j ≠ 0:=fun h => hz0 (hc.2 (hz.2 h))
   have hj2:=se_end hX hpz
   have hsb : (sg != 0) = true:=by simp [hz0]
   obtain ⟨N, hN⟩:=nm9 (2 * (j : Int) + 2)
   have es:=snT_succ X Q p j
   have es2:=snS_succ X Q p j
   rw [hN] at es
   obtain ⟨K, hK⟩ : ∃ K : Nat, (K : Int) = N * (N + 1):=⟨(N * (N + 1)).toNat, by have:=nn2 j; rw [hN] at this; omega⟩
   have k6:=nn2 j
   rw [hN, ← hK] at k6
   have k9 : N * (N + 1) ≤ 40 * 41:=Int.mul_le_mul (by omega) (by omega) (by omega) (by omega)
   rw [← hK] at es k9
   have w1 : IntKind.i64.wrap (N + 1) = N + 1:=by rw [IntKind.wrap_i64]; omega
   have w2 : IntKind.i64.wrap (N * (N + 1)) = (K : Int):=by rw [← hK, IntKind.wrap_i64]; omega
   have w3 : IntKind.i64.wrap (N + 2) = 2 * ((j + 1 : Nat) : Int) + 2:=by rw [IntKind.wrap_i64]; omega
   have aT2 : AbP (snT X Q p (j + 1)) p:=se_ab hX (j + 1)
   have aF : AbP (-(snT X Q p j) * Q / 2 ^ p) p:=se_fl hX j
   obtain ⟨Fp, hF⟩:=nm9 (-(snT X Q p j) * Q / 2 ^ p)
   rw [hF] at es aF
   have g2:=fun x y W h i (hW : Below w.heap.size w W) => dadd_any MS ES MT ET x y W h i (by omega) (by omega) (by omega) (by omega) (HT.out W hW)
   have nxs:=nx_add (x := -(p : Int)) aS (aT.up (show p ≤ p + 4 by omega)) (by omega) (by omega)
   rw [hmt, het, hms, hes] at nxs
   obtain ⟨y1, y2, y3⟩:=nxs
   rw [y1, y2, y3, ← es2] at g2
   have g3:=fun v W h => dneg_any MT ET v W h (by omega)
   have zn:=zl_neg MT
   obtain ⟨q2, q3, q5⟩:=HQ.out
   have g4:=fun x y W h i (hW : Below w.heap.size w W) => yprod_any (-MT) ET MQ EQ Fp p x y W h i (by omega) (by omega) (by omega) (by omega) (by rw [dq_neg, t5, q5, ← dq_neg, cut_fl]; exact hF) (aF.up (by omega)) (by omega) (HT.out W hW)
   have g5:=fun x W h (hW : Below w.heap.size w W) => yquot_any Fp p K x W h aF (by omega) (by omega) (by omega) (HT.out W hW)
   rw [← es] at g5
   have HJ2:=Hd9 (show SyJ X Q p (j + 1) (mkM (snT X Q p (j + 1)) (-(p : Int))) (mkE (snT X Q p (j + 1)) (-(p : Int))) (mkM (snS X Q p (j + 1)) (-(p : Int))) (mkE (snS X Q p (j + 1)) (-(p : Int))) from ⟨Or.inr (by omega), rfl, rfl, rfl, rfl⟩)
   have G2:=Hd9 g2
   have G3:=Hd9 g3
   have G4:=Hd9 g4
   have G5:=Hd9 g5
   have HM:=Hd9 (And.intro hj16 hN)
   clear g2 g3 g4 g5 gs hz hc hsg hX hp hb hmt het hms hes hj16 aT aS t1 t2 t3 t4 t5 s1 s2 s3 s4 s5 HJ hpz hj2 es es2 hK k6 k9 aT2 aF hF y1 y2 y3 zn q2 q3 q5
   rw [hN]
   clear hN
   obtain ⟨MT2, hMT2⟩:=nm9 (mkM (snT X Q p (j + 1)) (-(p : Int)))
   rw [hMT2] at G5 HJ2
   clear hMT2
   obtain ⟨ET2, hET2⟩:=nm9 (mkE (snT X Q p (j + 1)) (-(p : Int)))
   rw [hET2] at G5 HJ2
   clear hET2
   obtain ⟨MS2, hMS2⟩:=nm9 (mkM (snS X Q p (j + 1)) (-(p : Int)))
   rw [hMS2] at G2 HJ2
   clear hMS2
   obtain ⟨ES2, hES2⟩:=nm9 (mkE (snS X Q p (j + 1)) (-(p : Int)))
   rw [hES2] at G2 HJ2
   clear hES2
   obtain ⟨MF, hMF⟩:=nm9 (mkM Fp (-(p : Int)))
   rw [hMF] at G4 G5
   clear hMF
   obtain ⟨EF, hEF⟩:=nm9 (mkE Fp (-(p : Int)))
   rw [hEF] at G4 G5
   clear hEF
   obtain ⟨cel00,cel01,cel02⟩:=L.b0.a3
   (try go_wp2_with fail)
   refine (GS.out _ _ (isD_n (m:=MT) (e:=ET) (s:=.slice B (zl MT) d) (L.getN (by simp)))).mono ?_
   rintro e w41 ⟨rfl, be⟩
   clear cel00 cel01 cel02
   replace L:=L.step be
   clear be
   obtain ⟨cel00,cel01,cel02⟩:=L.b0.a3
   obtain ⟨cel10,cel11,cel12⟩:=L.tl.b0.a3
   (try go_wp2_with fail)
   refine (G2.out _ _ _ (isD_n (m:=MS) (e:=ES) (s:=.slice C (zl MS) d2) (L.getN (by simp))) (isD_n (m:=MT) (e:=ET) (s:=.slice B (zl MT) d) (L.getN (by simp))) L.below).mono ?_
   rintro e w42 ⟨v9, rfl, iz, be⟩
   clear cel00 cel01 cel02 cel10 cel11 cel12
   obtain ⟨C5, d5, rfl, _, in9⟩:=iz.form
   replace L:=(L.step be).n in9
   clear be iz in9
   have L9:=L.subx (ns':=[(.slice B (zl MT) d, MT.natAbs), (.slice C5 (zl MS2) d5, MS2.natAbs), (.slice A1 (zl MQ) c1, MQ.natAbs), (.slice A (zl M0) c, M0.natAbs)]) (bs':=[(gq + 1, 26, #[.bool (ng MS), .slice C (zl MS) d2, .int .i64 ES]), (gq + 2, 26, #[.bool (ng MT), .slice B (zl MT) d, .int .i64 ET]), (gq, 26, #[.bool (ng MQ), .slice A1 (zl MQ) c1, .int .i64 EQ]), (w.heap.size + 1, 26, #[.bool false, .slice none 0 0, .int .i64 0]), (w.heap.size, 148, #[.bool (ng M0), .slice A (zl M0) c, .int .i64 E0, .int .i64 (p : Int)])]) (by simp) (by simp)
   clear L
   have L:=L9
   clear L9
   obtain ⟨cel00,cel01,cel02⟩:=L.b0.a3
   obtain ⟨f00,f01,f02⟩:=L.b0.f3
   obtain ⟨cel10,cel11,cel12⟩:=L.tl.b0.a3
   have P:=L.putD (by omega) (by first | (simp; done) | (simp; omega)) (ng MS2) C5 (zl MS2) d5 ES2
   obtain ⟨p10,p11,p12⟩:=P.tl.b0.a3
   unfold put3 at p10 p11 p12 P
   go_wp2_with fail
   replace L:=P
   clear P p10 p11 p12
   clear cel00 f00 cel01 f01 cel02 f02 cel10 cel11 cel12
   refine (G3.out _ _ (isD_n (m:=MT) (e:=ET) (s:=.slice B (zl MT) d) (L.getN (by simp)))).mono ?_
   rintro e w43 ⟨v9, rfl, iz, be⟩
   obtain ⟨A7, c7, rfl, _, in9⟩:=iz.form
   replace L:=(L.step be).n in9
   clear be iz in9
   replace L:=L.swap
   obtain ⟨cel00,cel01,cel02⟩:=L.b0.a3
   obtain ⟨f00,f01,f02⟩:=L.b0.f3
   have P:=L.putD (by omega) (by first | (simp; done) | (simp; omega)) (ng (-MT)) A7 (zl (-MT)) c7 ET
   unfold put3 at  P
   go_wp2_with fail
   replace L:=P
   clear P 
   clear cel00 f00 cel01 f01 cel02 f02
   obtain ⟨Mn, hMn⟩:=nm9 (-MT)
   rw [hMn] at L G4 ⊢
   clear hMn
   replace L:=L.drew
   obtain ⟨cel00,cel01,cel02⟩:=L.b0.a3
   obtain ⟨f00,f01,f02⟩:=L.b0.f3
   obtain ⟨cel20,cel21,cel22⟩:=L.tl.tl.b0.a3
   obtain ⟨cel40,cel41,cel42,cel43⟩:=L.tl.tl.tl.tl.b0.a4
   go_region_with (first | (go_at_call 260; (with_reducible refine (G4.out _ _ _ ?_ ?_ L.below).mono ?_); (· (refine isD_n (L.getN ?_) <;> (repeat (first | (with_reducible exact mS) | apply mT)))); (· (refine isD_n (L.getN ?_) <;> (repeat (first | (with_reducible exact mS) | apply mT)))); rintro e9 wh ⟨vh, rfl, id, be⟩; obtain ⟨A8, c8, rfl, _, in9⟩:=id.form; replace L:=(L.step be).n in9; clear be id in9; (try (obtain ⟨r00,r01,r02⟩:=L.b0.a3; obtain ⟨z00,z01,z02⟩:=L.b0.f3; obtain ⟨r20,r21,r22⟩:=L.tl.tl.b0.a3; obtain ⟨r40,r41,r42,r43⟩:=L.tl.tl.tl.tl.b0.a4))) | (go_at_call 257; (with_reducible refine (G5.out _ _ ?_ L.below).mono ?_); (· (refine isD_n (L.getN ?_) <;> (repeat (first | (with_reducible exact mS) | apply mT)))); rintro e9 wh ⟨vh, rfl, id, be⟩; obtain ⟨B9, d9, rfl, _, in9⟩:=id.form; replace L:=(L.step be).n in9; clear be id in9; (try (obtain ⟨r00,r01,r02⟩:=L.b0.a3; obtain ⟨z00,z01,z02⟩:=L.b0.f3; obtain ⟨r20,r21,r22⟩:=L.tl.tl.b0.a3; obtain ⟨r40,r41,r42,r43⟩:=L.tl.tl.tl.tl.b0.a4))))
   all_goals
    have P:=L.putD (by omega) (by first | (simp; done) | (simp; omega)) (ng MT2) B9 (zl MT2) d9 ET2
    unfold put3 at P
    go_wp2_with fail
    go_roundw
    case rel => exact ⟨j + 1, MT2, ET2, MS2, ES2, B9, C5, d9, d5, by go_num, P.subx (by simp) (by simp), HJ2⟩
    case measure =>
     obtain ⟨hj16, hN⟩:=HM.out
     simp [intOf]
     omega

theorem mk_ge {x e : Int} (h : mkR x e = 0) : 0 ≤ mkM x e ↔ 0 ≤ x:=by
 have q:=dq_mk h
 have a:=dq_le_iff 0 x e
 have b:=dq_le_iff 0 (mkM x e) (mkE x e)
 rw [dq_zero] at a b
 rw [q] at b
 exact b.symm.trans a
theorem cmp_neg9 {x : Int} : cmpI x 0 < 0 ↔ x < 0:=by
 unfold cmpI
 (repeat' split) <;> omega
theorem ysinp_any (Y : Int) (p : Nat) (vx : Value) (w : World) (hx : IsA w vx (mkM Y (-(p : Int))) (mkE Y (-(p : Int))) (p : Int)) (h0 : 0 ≤ Y) (h1 : Y ≤ 2 ^ p) (hp : p ≤ 240) (hp2 : 64 ≤ p) (hT : Tab w) :
  Calls Tryz.prog 238 #[vx] w (RetD8 w (mkM (siP p Y) (-(p : Int))) (mkE (siP p Y) (-(p : Int)))):=by
 obtain ⟨A, c, rfl, hn⟩:=hx.form
 have L0:=(Lq.mk0 w).n hn
 have HT:=Hd9 (fun W (hW : Below w.heap.size w W) => hT.mono hW)
 have e2 : ((2 ^ p : Nat) : Int) = 2 ^ p:=by push_cast; rfl
 have aY : AbP Y p:=by unfold AbP; omega
 obtain ⟨n1, n2, n3, n4, n5⟩:=nx (x := -(p : Int)) aY (by omega) (by omega)
 have hge:=(mk_ge n1).2 h0
 have hX:=div_third h0 h1
 have aX : AbP (Y / 3486784401) p:=se_ab hX 0
 have hok:=tr_ok h0 h1 hp hp2
 have HOK:=Hd9 (And.intro hok (And.intro hp hp2))
 have g1:=fun v W h => dsign_any (mkM Y (-(p : Int))) (mkE Y (-(p : Int))) v W h (by omega)
 have d1 : decide (cmpI (mkM Y (-(p : Int))) 0 < 0) = false:=decide_eq_false (fun h => by have:=cmp_neg9.1 h; omega)
 have g2:=fun x W h (hW : Below w.heap.size w W) => yquot_any Y p 3486784401 x W h aY (by omega) (by omega) (by omega) (hT.mono hW)
 rw [show ((3486784401 : Nat) : Int) = 3486784401 from rfl] at g2
 have g3:=fun x W h (hW : Below w.heap.size w W) => yser_any (Y / 3486784401) (Y / 3486784401 * (Y / 3486784401) / 2 ^ p) p x W h hX hp (hT.mono hW)
 rw [show snS (Y / 3486784401) (Y / 3486784401 * (Y / 3486784401) / 2 ^ p) p 15 = siS p Y from rfl] at g3
 have HJ0:=Hd9 (show mkM (trN p (siS p Y) 0) (-(p : Int)) = mkM (siS p Y) (-(p : Int)) ∧ mkE (trN p (siS p Y) 0) (-(p : Int)) = mkE (siS p Y) (-(p : Int)) from ⟨rfl, rfl⟩)
 obtain ⟨sg, hsg⟩:=nm9 (cmpI (mkM Y (-(p : Int))) 0)
 rw [hsg] at g1 d1
 have G1:=Hd9 g1
 have G2:=Hd9 g2
 have G3:=Hd9 g3
 have hR : siP p Y = trN p (siS p Y) 20:=rfl
 rw [hR]
 clear g1 g2 g3 hsg n1 n2 n3 n4 n5 hge hX aX aY hok e2 h0 h1 hR hT hx hn
 obtain ⟨M0, hM0⟩:=nm9 (mkM Y (-(p : Int)))
 rw [hM0] at G1 G2 L0 ⊢
 clear hM0
 obtain ⟨E0, hE0⟩:=nm9 (mkE Y (-(p : Int)))
 rw [hE0] at G1 G2 ⊢
 clear hE0
 obtain ⟨MX, hMX⟩:=nm9 (mkM (Y / 3486784401) (-(p : Int)))
 rw [hMX] at G2 G3
 clear hMX
 obtain ⟨EX, hEX⟩:=nm9 (mkE (Y / 3486784401) (-(p : Int)))
 rw [hEX] at G2 G3
 clear hEX
 obtain ⟨MS, hMS⟩:=nm9 (mkM (siS p Y) (-(p : Int)))
 rw [hMS] at G3 HJ0
 clear hMS
 obtain ⟨ES, hES⟩:=nm9 (mkE (siS p Y) (-(p : Int)))
 rw [hES] at G3 HJ0
 clear hES
 go_enter Tryz.func238, Tryz.ntmps238
 have L:=((L0.varAn (w.heap.size) (by simp) (ng M0) A (zl M0) c E0 (p : Int)).varD (w.heap.size + 1) (by simp) false none 0 0 0)
 obtain ⟨c10,c11,c12,c13⟩:=L.tl.b0.a4
 (try go_wp2_with fail)
 refine (G1.out _ _ (isD_n (m:=M0) (e:=E0) (s:=.slice A (zl M0) c) (L.getN (by simp)))).mono ?_
 rintro e w1 ⟨rfl, be⟩
 clear c10 c11 c12 c13
 replace L:=L.step be
 clear be
 have hl0:=L.b0.lt
 (try go_wp2_with fail)
 obtain ⟨V, hV, L9⟩:=L.name
 rw [hV]
 clear hV L
 have L:=L9
 clear L9
 have Q0:=Hd9 (fun Z (hZ : Below V.heap.size V Z) => (L.tl.b0.mono hZ).c40)
 have Q1:=Hd9 (fun Z (hZ : Below V.heap.size V Z) => (L.tl.b0.mono hZ).c41)
 have Q2:=Hd9 (fun Z (hZ : Below V.heap.size V Z) => (L.tl.b0.mono hZ).c42)
 have Q3:=Hd9 (fun Z (hZ : Below V.heap.size V Z) => (L.tl.b0.mono hZ).c43)
 have hb0:=L.tl.b0.lt
 have hb1:=L.b0.lt
 have D0 : Dq V V [(.slice A (zl M0) c, (M0 : Int).natAbs)] [] [] []:=⟨((Lq.mk0 V).n (L.getN (v:=.slice A (zl M0) c) (x:=(M0 : Int).natAbs) (by simp))), List.nodup_nil, fun p hp => by cases hp⟩
 have D:=D0.drew
 have hVw:=L.below.size
 have HVW:=Hd9 (fun Z (hZ : Below V.heap.size V Z) => L.below.trans (hZ.mono hVw))
 have LL:=Hd9 L
 clear L
 obtain ⟨K, hK⟩:=nm9 (V.heap.size)
 have hz0 : K ≤ V.heap.size:=by omega
 have hmd : V.drew.heap.size = K:=hK
 have hc0 : w.heap.size < K:=by omega
 have hc1 : w.heap.size + 1 < K:=by omega
 go_cut [3] from 16 to 24 (fun s0 wx => Made1D V MS ES s0 wx)
 case first =>
  go_region_held3 (fun w' => w'.cell? ⟨w.heap.size, 0, none⟩ = some (.bool (ng M0)) ∧ w'.cell? ⟨w.heap.size, 1, none⟩ = some (.slice A (zl M0) c) ∧ w'.cell? ⟨w.heap.size, 2, none⟩ = some (.int .i64 E0) ∧ w'.cell? ⟨w.heap.size, 3, none⟩ = some (.int .i64 (p : Int))) (((try dsimp only); refine ⟨?_, ?_, ?_, ?_⟩ <;> (repeat (first | (with_reducible exact Q0.out _ D.lq.below) | (with_reducible exact Q0.out _ D0.lq.below) | (with_reducible exact Q1.out _ D.lq.below) | (with_reducible exact Q1.out _ D0.lq.below) | (with_reducible exact Q2.out _ D.lq.below) | (with_reducible exact Q2.out _ D0.lq.below) | (with_reducible exact Q3.out _ D.lq.below) | (with_reducible exact Q3.out _ D0.lq.below) | (with_reducible refine c_alloc _ ?_) | (with_reducible refine c_drew ?_) | (with_reducible refine c_set ?_ (by assumption) ?_) | omega)))) (first | (go_at_call 257; (with_reducible refine (G2.out _ _ ?_ ?_).mono ?_); (· (first | (with_reducible refine isD_n (D.getN ?_); (repeat (first | (with_reducible exact mS) | apply mT))) | (with_reducible refine isD_n ((D.boxD false none 0 0 0).getN ?_); (repeat (first | (with_reducible exact mS) | apply mT))) | (with_reducible refine isD_n ((D0.boxD false none 0 0 0).drew.getN ?_); (repeat (first | (with_reducible exact mS) | apply mT))))); (· (first | (with_reducible exact HVW.out _ D.lq.below) | (with_reducible exact HVW.out _ (D.boxD false none 0 0 0).lq.below) | (with_reducible exact HVW.out _ (D0.boxD false none 0 0 0).drew.lq.below))); rintro e9 wh ⟨vh, rfl, id, be⟩; obtain ⟨A7, c7, rfl, _, in9⟩:=id.form; (first | (replace D:=D.step be) | (replace D:=(D.boxMD hmd false none 0 0 0).step be) | (replace D:=(D.boxD false none 0 0 0).step be)); have hz:=be.size; (try simp at hz); replace D:=D.n in9; (try (obtain ⟨x00,x01,x02⟩:=D.lq.b0.a3; obtain ⟨y00,y01,y02⟩:=D.lq.b0.f3)); (try obtain ⟨na, nb, nc, nd, nl⟩:=D.n0)) | (go_at_call 258; (with_reducible refine (G3.out _ _ ?_ ?_).mono ?_); (· (first | (with_reducible refine isA_n (D.getN ?_); (repeat (first | (with_reducible exact mS) | apply mT))) | (with_reducible refine isA_n ((D.boxD false none 0 0 0).getN ?_); (repeat (first | (with_reducible exact mS) | apply mT))) | (with_reducible refine isA_n ((D0.boxD false none 0 0 0).drew.getN ?_); (repeat (first | (with_reducible exact mS) | apply mT))))); (· (first | (with_reducible exact HVW.out _ D.lq.below) | (with_reducible exact HVW.out _ (D.boxD false none 0 0 0).lq.below) | (with_reducible exact HVW.out _ (D0.boxD false none 0 0 0).drew.lq.below))); rintro e9 wh ⟨vh, rfl, id, be⟩; obtain ⟨A8, c8, rfl, _, in9⟩:=id.form; (first | (replace D:=D.step be) | (replace D:=(D.boxMD hmd false none 0 0 0).step be) | (replace D:=(D.boxD false none 0 0 0).step be)); have hz:=be.size; (try simp at hz); replace D:=D.n in9; (try (obtain ⟨x00,x01,x02⟩:=D.lq.b0.a3; obtain ⟨y00,y01,y02⟩:=D.lq.b0.f3)); (try obtain ⟨na, nb, nc, nd, nl⟩:=D.n0)))
  all_goals
   go_wp2_with fail
   go_meet
   first
   | ((with_reducible refine made1d_a D ?_) <;> (repeat (first | (with_reducible exact mS) | apply mT)))
   | ((with_reducible refine made1d_b D ?_) <;> (repeat (first | (with_reducible exact mS) | apply mT)))
 case rest =>
  obtain ⟨gs, A9, c9, rfl, hg9, bw, hb9, q1⟩:=hcut
  have L:=((LL.out.step bw).n q1).b hb9
  have hl_gs:=hg9
  clear D D0 hmd LL hb9 q1 bw hg9 HVW Q0 Q1 Q2 Q3 hc0 hc1
  generalize wc = wd1 at *
  obtain ⟨c00,c01,c02⟩:=L.b0.a3
  (try go_wp2_with fail)
  clear G1 G2 G3 d1
  clear c00 c01 c02
  go_loopw [25] (fun i wr => ∃ (j : Nat) (M E : Int) (B : Option Addr) (d : Nat), i = .int .i64 (j : Int) ∧ j ≤ 20 ∧ Lq w wr [(.slice B (zl M) d, M.natAbs)] [] [] [(gs, 26, #[.bool (ng M), .slice B (zl M) d, .int .i64 E]), (w.heap.size + 1, 26, #[.bool false, .slice none 0 0, .int .i64 0]), (w.heap.size, 148, #[.bool (ng M0), .slice A (zl M0) c, .int .i64 E0, .int .i64 (p : Int)])] ∧ Hid (mkM (trN p (siS p Y) j) (-(p : Int)) = M ∧ mkE (trN p (siS p Y) j) (-(p : Int)) = E)) (fun i _ => 20 - (intOf i).toNat)
  case atStart => exact ⟨0, MS, ES, A9, c9, by go_num, by omega, L.subx (by simp) (by simp), HJ0⟩
  case round =>
   clear L HJ0
   obtain ⟨j, M, E, B, d, rfl, hj, L, HJ⟩:=hrel
   have hl1:=L.b0.lt
   rcases Nat.lt_or_ge j 20 with hj2 | hjg
   ·obtain ⟨hok, hp, hp2⟩:=HOK.out
    obtain ⟨hm, he⟩:=HJ.out
    have o1:=fun x W h (hW : Below w.heap.size w W) => ytri_any (trN p (siS p Y) j) p x W h (hok j hj).ab hp (HT.out W hW)
    rw [hm, he, show triI p (trN p (siS p Y) j) = trN p (siS p Y) (j + 1) from rfl] at o1
    have HJ2:=Hd9 (show mkM (trN p (siS p Y) (j + 1)) (-(p : Int)) = mkM (trN p (siS p Y) (j + 1)) (-(p : Int)) ∧ mkE (trN p (siS p Y) (j + 1)) (-(p : Int)) = mkE (trN p (siS p Y) (j + 1)) (-(p : Int)) from ⟨rfl, rfl⟩)
    obtain ⟨M2, hM2⟩:=nm9 (mkM (trN p (siS p Y) (j + 1)) (-(p : Int)))
    obtain ⟨E2, hE2⟩:=nm9 (mkE (trN p (siS p Y) (j + 1)) (-(p : Int)))
    rw [hM2, hE2] at o1
    have HJ3:=Hd9 (And.intro hM2 hE2)
    have O1:=Hd9 o1
    have hjl : (j : Int) < 20:=by omega
    have w4 : IntKind.i64.wrap ((j : Int) + 1) = (j : Int) + 1:=by rw [IntKind.wrap_i64]; omega
    clear o1 hm he hok hp hp2 HJ HJ2 hM2 hE2
    obtain ⟨cel00,cel01,cel02⟩:=L.b0.a3
    obtain ⟨cel20,cel21,cel22,cel23⟩:=L.tl.tl.b0.a4
    go_wp2_with fail
    refine (O1.out _ _ (isD_n (m:=M) (e:=E) (s:=.slice B (zl M) d) (L.getN (by simp))) L.below).mono ?_
    rintro e w51 ⟨v9, rfl, iz, be⟩
    clear cel00 cel01 cel02 cel20 cel21 cel22 cel23
    obtain ⟨A5, c5, rfl, _, in9⟩:=iz.form
    replace L:=(L.step be).n in9
    clear be iz in9
    obtain ⟨cel00,cel01,cel02⟩:=L.b0.a3
    obtain ⟨f00,f01,f02⟩:=L.b0.f3
    replace L:=L.putD (by omega) (by first | (simp; done) | (simp; omega)) (ng M2) A5 (zl M2) c5 E2
    unfold put3 at L
    go_wp2_with fail
    go_roundw
    case rel => exact ⟨j + 1, M2, E2, A5, c5, by go_num, by omega, L.subx (by simp) (by simp), HJ3⟩
    case measure => simp [intOf]; omega
   ·have hjh : j = 20:=by omega
    subst hjh
    have hv9:=L.b0
    have hl9:=hv9.lt
    have L9:=L.subx (ns':=[(.slice B (zl M) d, M.natAbs)]) (bs':=[(w.heap.size + 1, 26, #[.bool false, .slice none 0 0, .int .i64 0]), (gs, 26, #[.bool (ng M), .slice B (zl M) d, .int .i64 E])]) (by simp) (by simp)
    clear L hv9
    have L:=L9
    clear L9
    have n9 : w.heap.size + 1 ≠ gs:=by omega
    obtain ⟨cel00,cel01,cel02⟩:=L.b0.a3
    obtain ⟨f00,f01,f02⟩:=L.b0.f3
    obtain ⟨cel10,cel11,cel12⟩:=L.tl.b0.a3
    (try go_wp2_with fail)
    clear cel00 f00 cel01 f01 cel02 f02 cel10 cel11 cel12
    have LP:=L.putD (by omega) (by first | (simp; done) | (simp; omega)) (ng M) B (zl M) d (E)
    obtain ⟨k0,k1,k2⟩:=LP.b0.a3
    unfold put3 at k0 k1 k2
    exact bodyPost_ret (v:=.agg #[.bool (ng M), .slice B (zl M) d, .int .i64 (E)]) (by simp [results, Tryz.results238, go_sem, k0, k1, k2]) rfl ⟨_, rfl, by rw [HJ.out.1, HJ.out.2]; exact isD_n (LP.getN (by simp)), LP.below⟩
theorem ysin_any (Y : Int) (p : Nat) (vx : Value) (w : World) (hx : IsA w vx (mkM Y (-(p : Int))) (mkE Y (-(p : Int))) (p : Int)) (h1 : Y.natAbs ≤ 2 ^ p) (hp : p ≤ 240) (hp2 : 64 ≤ p) (hT : Tab w) :
  Calls Tryz.prog 238 #[vx] w (RetD8 w (mkM (siI p Y) (-(p : Int))) (mkE (siI p Y) (-(p : Int)))):=by
 have e2 : ((2 ^ p : Nat) : Int) = 2 ^ p:=by push_cast; rfl
 rcases Int.lt_or_le Y 0 with hY | hY
 rotate_left
 ·rw [show siI p Y = siP p Y by unfold siI; rw [if_neg (by omega)]]
  exact ysinp_any Y p vx w hx hY (by omega) hp hp2 hT
 rw [show siI p Y = -siP p (-Y) by unfold siI; rw [if_pos hY]]
 obtain ⟨A, c, rfl, hn⟩:=hx.form
 have L0:=(Lq.mk0 w).n hn
 have aY : AbP Y p:=h1
 obtain ⟨n1, n2, n3, n4, n5⟩:=nx (x := -(p : Int)) aY (by omega) (by omega)
 have hge:=mk_ge n1
 have g1:=fun v W h => dsign_any (mkM Y (-(p : Int))) (mkE Y (-(p : Int))) v W h (by omega)
 have d1 : decide (cmpI (mkM Y (-(p : Int))) 0 < 0) = true:=decide_eq_true (cmp_neg9.2 (by omega))
 have g2:=fun v W h => dneg_any (mkM Y (-(p : Int))) (mkE Y (-(p : Int))) v W h (by omega)
 obtain ⟨k1, k2⟩:=nx_neg9 aY (by omega) (show -6000 ≤ -(p : Int) ∧ -(p : Int) ≤ 100 by omega)
 rw [← k1] at g2
 have g3:=fun x W h (hW : Below w.heap.size w W) => ysinp_any (-Y) p x W h (by omega) (by omega) hp hp2 (hT.mono hW)
 have sv:=siP_ok (p:=p) (Y := -Y) (by omega) (by omega) hp hp2
 have aS : AbP (siP p (-Y)) (p + 1):=sv.ab
 obtain ⟨j1, j2, j3, j4, j5⟩:=nx (x := -(p : Int)) aS (by omega) (by omega)
 have g4:=fun v W h => dneg_any (mkM (siP p (-Y)) (-(p : Int))) (mkE (siP p (-Y)) (-(p : Int))) v W h (by omega)
 obtain ⟨i1, i2⟩:=nx_neg9 aS (by omega) (show -6000 ≤ -(p : Int) ∧ -(p : Int) ≤ 100 by omega)
 rw [← i1] at g4
 rw [i2]
 rw [k2] at g3
 clear n1 n2 n3 n4 n5 hge k1 k2 sv aS j1 j2 j3 j4 j5 i1 i2 aY hT hx hn h1 hp hp2 e2 hY
 generalize mkM (-siP p (-Y)) (-(p : Int)) = MR at *
 generalize mkM (siP p (-Y)) (-(p : Int)) = MP at *
 generalize mkE (siP p (-Y)) (-(p : Int)) = EP at *
 generalize mkM (-Y) (-(p : Int)) = MN at *
 generalize mkM Y (-(p : Int)) = M0 at *
 generalize mkE Y (-(p : Int)) = E0 at *
 generalize cmpI M0 0 = sg at *
 have G1:=Hd9 g1
 have G2:=Hd9 g2
 have G3:=Hd9 g3
 have G4:=Hd9 g4
 clear g1 g2 g3 g4
 go_enter Tryz.func238, Tryz.ntmps238
 have L:=((L0.varAn (w.heap.size) (by simp) (ng M0) A (zl M0) c E0 (p : Int)).varD (w.heap.size + 1) (by simp) false none 0 0 0)
 obtain ⟨c10,c11,c12,c13⟩:=L.tl.b0.a4
 (try go_wp2_with fail)
 refine (G1.out _ _ (isD_n (m:=M0) (e:=E0) (s:=.slice A (zl M0) c) (L.getN (by simp)))).mono ?_
 rintro e w1 ⟨rfl, be⟩
 clear c10 c11 c12 c13
 replace L:=L.step be
 clear be
 have hl0:=L.b0.lt
 (try go_wp2_with fail)
 replace L:=L.drew
 obtain ⟨c00,c01,c02⟩:=L.b0.a3
 obtain ⟨f00,f01,f02⟩:=L.b0.f3
 obtain ⟨c10,c11,c12,c13⟩:=L.tl.b0.a4
 go_cut [] from 8 to 15 (fun wx => ∃ (A9 : Option Addr) (c9 : Nat), Lq w wx [(.slice A9 (zl MR) c9, MR.natAbs)] [] [] [(w.heap.size + 1, 26, #[.bool (ng MR), .slice A9 (zl MR) c9, .int .i64 EP])])
 case first =>
  go_region_with (first | (go_at_call 116; (with_reducible refine (G2.out _ _ ?_).mono ?_); (· (refine isD_n (L.getN ?_) <;> (repeat (first | (with_reducible exact mS) | apply mT)))); rintro e9 wh ⟨vh, rfl, id, be⟩; obtain ⟨A6, c6, rfl, _, in9⟩:=id.form; replace L:=(L.step be).n in9; clear be id in9; (try (obtain ⟨r00,r01,r02⟩:=L.b0.a3; obtain ⟨z00,z01,z02⟩:=L.b0.f3; obtain ⟨r10,r11,r12,r13⟩:=L.tl.b0.a4))) | (go_at_call 116; (with_reducible refine (G4.out _ _ ?_).mono ?_); (· (refine isD_n (L.getN ?_) <;> (repeat (first | (with_reducible exact mS) | apply mT)))); rintro e9 wh ⟨vh, rfl, id, be⟩; obtain ⟨A9, c9, rfl, _, in9⟩:=id.form; replace L:=(L.step be).n in9; clear be id in9; (try (obtain ⟨r00,r01,r02⟩:=L.b0.a3; obtain ⟨z00,z01,z02⟩:=L.b0.f3; obtain ⟨r10,r11,r12,r13⟩:=L.tl.b0.a4))) | (go_at_call 238; (with_reducible refine (G3.out _ _ ?_ L.below).mono ?_); (· (refine isA_n (L.getN ?_) <;> (repeat (first | (with_reducible exact mS) | apply mT)))); rintro e9 wh ⟨vh, rfl, id, be⟩; obtain ⟨A7, c7, rfl, _, in9⟩:=id.form; replace L:=(L.step be).n in9; clear be id in9; (try (obtain ⟨r00,r01,r02⟩:=L.b0.a3; obtain ⟨z00,z01,z02⟩:=L.b0.f3; obtain ⟨r10,r11,r12,r13⟩:=L.tl.b0.a4))))
  all_goals
   have P:=L.putD (by omega) (by first | (simp; done) | (simp; omega)) (ng MR) A9 (zl MR) c9 EP
   unfold put3 at P
   go_wp2_with fail
   go_meet
   exact ⟨A9, c9, P.subx (by simp) (by simp)⟩
 case rest =>
  clear L
  obtain ⟨A9, c9, L⟩:=hcut
  (try go_wp2_with fail)
  obtain ⟨k0,k1,k2⟩:=L.b0.a3
  exact bodyPost_ret (v:=.agg #[.bool (ng MR), .slice A9 (zl MR) c9, .int .i64 EP]) (by simp [results, Tryz.results238, go_sem, k0, k1, k2]) rfl ⟨_, rfl, isD_n (L.getN (by simp)), L.below⟩

theorem cut_half (Y : Int) (p : Nat) {q : Rat} (h : q + q = dq Y (-(p : Int))) : cutQ q (p : Int) = Y / 2:=by
 have:=cut_int Y (k:=2) (by omega) p
 rw [show dq 2 0 = 2 by decide +kernel] at this
 rw [← this]
 congr 1
 have e : dq Y (-(p : Int)) / 2 * 2 = dq Y (-(p : Int)):=Rat.div_mul_cancel (by decide)
 grind
theorem fl_ab {S : Int} {p : Nat} (h : S.natAbs ≤ 2 ^ (p + 1)) : AbP (S * S / 2 ^ p) (p + 2) ∧ AbP (S * S / 2 ^ p * 2) (p + 4) ∧ AbP (1 * 2 ^ p - S * S / 2 ^ p * 2) (p + 5):=by
 have e : ((2 ^ p : Nat) : Int) = 2 ^ p:=by push_cast; rfl
 have a:=(tri_ab h).1
 have q2 : (2 : Nat) ^ (p + 2) = 4 * 2 ^ p:=by rw [Nat.pow_add]; omega
 have q4 : (2 : Nat) ^ (p + 4) = 16 * 2 ^ p:=by rw [Nat.pow_add]; omega
 have q5 : (2 : Nat) ^ (p + 5) = 32 * 2 ^ p:=by rw [Nat.pow_add]; omega
 refine ⟨a, ?_, ?_⟩
 ·unfold AbP at *
  rw [q4]; rw [q2] at a
  omega
 ·unfold AbP at *
  rw [q5]; rw [q2] at a
  omega

theorem ycos_any (Y : Int) (p : Nat) (vx : Value) (w : World) (hx : IsA w vx (mkM Y (-(p : Int))) (mkE Y (-(p : Int))) (p : Int)) (h1 : Y.natAbs ≤ 2 ^ p) (hp : p ≤ 240) (hp2 : 64 ≤ p) (hT : Tab w) :
  Calls Tryz.prog 239 #[vx] w (RetD8 w (mkM (coI p Y) (-(p : Int))) (mkE (coI p Y) (-(p : Int)))):=by
 obtain ⟨A, c, rfl, hn⟩:=hx.form
 have L0:=(Lq.mk0 w).n hn
 have aY : AbP Y p:=h1
 obtain ⟨n1, n2, n3, n4, n5⟩:=nx (x := -(p : Int)) aY (by omega) (by omega)
 have g1:=fun x W h (hW : Below w.heap.size w W) => dshift_any (mkM Y (-(p : Int))) (mkE Y (-(p : Int))) (-1) x W h (by omega) (by omega) (by omega) (hT.mono hW)
 have hz2 : (Y / 2).natAbs ≤ 2 ^ p:=Nat.le_trans (Int.natAbs_ediv_le_natAbs _ _) h1
 have r1 : mkR (mkM Y (-(p : Int))) (mkE Y (-(p : Int)) + -1) = 0:=mk_fits9 (by omega) (by omega) (by omega)
 have r2:=zl_mk (mkM Y (-(p : Int))) (mkE Y (-(p : Int)) + -1)
 have r3:=mkE_at r1 (k:=20) (by omega)
 have r4:=dq_mk r1
 have r5:=dq_dbl (mkM Y (-(p : Int))) (mkE Y (-(p : Int)))
 rw [n5] at r5
 rw [r1] at g1
 obtain ⟨Mh, hMh⟩:=nm9 (mkM (mkM Y (-(p : Int))) (mkE Y (-(p : Int)) + -1))
 obtain ⟨Eh, hEh⟩:=nm9 (mkE (mkM Y (-(p : Int))) (mkE Y (-(p : Int)) + -1))
 rw [hMh] at g1 r2 r4
 rw [hEh] at g1 r3 r4
 rw [← r4] at r5
 have hcut:=cut_half Y p r5
 have g2:=fun x W h (hW : Below w.heap.size w W) => gfloor_any Mh Eh (p : Int) x W h (by omega) (by omega) (by omega) (by omega) (hT.mono hW)
 obtain ⟨y1, y2, y3⟩:=g_yes (permN (p:=p) (by omega)) (Y / 2)
 have aH : AbP (Y / 2) p:=hz2
 obtain ⟨m1, m2, m3, m4, m5⟩:=nx (x := -(p : Int)) aH (by omega) (by omega)
 rw [hcut, y1, y2, y3, m1] at g2
 have g3:=fun x W h (hW : Below w.heap.size w W) => ysin_any (Y / 2) p x W h hz2 hp hp2 (hT.mono hW)
 have sv:=(siI_ok hz2 hp hp2).ab
 obtain ⟨a1, a2, a3⟩:=fl_ab sv
 have aS : AbP (siI p (Y / 2)) (p + 1):=sv
 obtain ⟨s1, s2, s3, s4, s5⟩:=nx (x := -(p : Int)) aS (by omega) (by omega)
 have g4:=fun x y W h j (hW : Below w.heap.size w W) => yprod_any (mkM (siI p (Y / 2)) (-(p : Int))) (mkE (siI p (Y / 2)) (-(p : Int))) (mkM (siI p (Y / 2)) (-(p : Int))) (mkE (siI p (Y / 2)) (-(p : Int))) (siI p (Y / 2) * siI p (Y / 2) / 2 ^ p) p x y W h j (by omega) (by omega) (by omega) (by omega) (by rw [s5, cut_fl]) (a1.up (by omega)) (by omega) (hT.mono hW)
 obtain ⟨i1, i2, i3, i4, i5⟩:=nx (x := -(p : Int)) a1 (by omega) (by omega)
 obtain ⟨j1, j2, j3, j4, j5⟩:=nx (x := -(p : Int)) a2 (by omega) (by omega)
 have g5:=fun x W h (hW : Below w.heap.size w W) => dshift_any (mkM (siI p (Y / 2) * siI p (Y / 2) / 2 ^ p) (-(p : Int))) (mkE (siI p (Y / 2) * siI p (Y / 2) / 2 ^ p) (-(p : Int))) 1 x W h (by omega) (by omega) (by omega) (hT.mono hW)
 obtain ⟨u1, u2, u3⟩:=nx_shl2 (p:=p) (k:=1) a1 (by omega) (by omega) (by omega)
 rw [show (siI p (Y / 2) * siI p (Y / 2) / 2 ^ p) * 2 ^ (1 : Int).toNat = (siI p (Y / 2) * siI p (Y / 2) / 2 ^ p) * 2 from rfl] at u2 u3
 rw [u1, u2, u3] at g5
 have g6:=fun W (hW : Below w.heap.size w W) => dof_any 1 W (by omega) (by omega) (hT.mono hW)
 obtain ⟨o1, o2⟩:=np_int 1 (p:=p) (j:=0) (by decide) (by omega) (by omega)
 rw [o1, o2] at g6
 have a5 : AbP (1 * 2 ^ p) (p + 4):=(AbP.mul (show AbP 1 0 by unfold AbP; decide) (show AbP (2 ^ p) p by unfold AbP; rw [Int.natAbs_pow]; exact Nat.le_refl _)).up (by omega)
 obtain ⟨k1, k2, k3, k4, k5⟩:=nx (x := -(p : Int)) a5 (by omega) (by omega)
 have g7:=fun x y W h j (hW : Below w.heap.size w W) => dsub_any (mkM (1 * 2 ^ p) (-(p : Int))) (mkE (1 * 2 ^ p) (-(p : Int))) (mkM (siI p (Y / 2) * siI p (Y / 2) / 2 ^ p * 2) (-(p : Int))) (mkE (siI p (Y / 2) * siI p (Y / 2) / 2 ^ p * 2) (-(p : Int))) x y W h j (by omega) (by omega) (by omega) (by omega) (hT.mono hW)
 obtain ⟨v1, v2, v3⟩:=nx_sub (x := -(p : Int)) a5 a2 (by omega) (by omega)
 rw [v1, v2, v3, show 1 * 2 ^ p - siI p (Y / 2) * siI p (Y / 2) / 2 ^ p * 2 = coI p Y by unfold coI; omega] at g7
 clear n1 n2 n3 n4 n5 hz2 r1 r2 r3 r4 r5 hMh hEh hcut y1 y2 y3 aH m1 m2 m3 m4 m5 sv a1 a2 a3 aS s1 s2 s3 s4 s5 i1 i2 i3 i4 i5 j1 j2 j3 j4 j5 u1 u2 u3 o1 o2 a5 k1 k2 k3 k4 k5 v1 v2 v3 aY hT hx hn h1 hp hp2
 generalize mkM (coI p Y) (-(p : Int)) = MR at *
 generalize mkE (coI p Y) (-(p : Int)) = ER at *
 generalize mkM (siI p (Y / 2) * siI p (Y / 2) / 2 ^ p * 2) (-(p : Int)) = M2 at *
 generalize mkE (siI p (Y / 2) * siI p (Y / 2) / 2 ^ p * 2) (-(p : Int)) = E2 at *
 generalize mkM (siI p (Y / 2) * siI p (Y / 2) / 2 ^ p) (-(p : Int)) = MD at *
 generalize mkE (siI p (Y / 2) * siI p (Y / 2) / 2 ^ p) (-(p : Int)) = ED at *
 generalize mkM (1 * 2 ^ p) (-(p : Int)) = M1 at *
 generalize mkE (1 * 2 ^ p) (-(p : Int)) = E1 at *
 generalize mkM (siI p (Y / 2)) (-(p : Int)) = MS at *
 generalize mkE (siI p (Y / 2)) (-(p : Int)) = ES at *
 generalize mkM (Y / 2) (-(p : Int)) = MH at *
 generalize mkE (Y / 2) (-(p : Int)) = EH at *
 generalize mkM Y (-(p : Int)) = M at *
 generalize mkE Y (-(p : Int)) = E at *
 have G1:=Hd9 g1
 have G2:=Hd9 g2
 have G3:=Hd9 g3
 have G4:=Hd9 g4
 have G5:=Hd9 g5
 have G6:=Hd9 g6
 have G7:=Hd9 g7
 clear g1 g2 g3 g4 g5 g6 g7
 go_enter Tryz.func239, Tryz.ntmps239
 have L:=((L0.varAn (w.heap.size) (by simp) (ng M) A (zl M) c E (p : Int)).varD (w.heap.size + 1) (by simp) false none 0 0 0)
 obtain ⟨c10,c11,c12,c13⟩:=L.tl.b0.a4
 (try go_wp2_with fail)
 refine (G1.out _ _ (isD_n (m:=M) (e:=E) (s:=.slice A (zl M) c) (L.getN (by simp))) L.below).mono ?_
 rintro e w1 ⟨v9, rfl, iz, be⟩
 clear c10 c11 c12 c13
 obtain ⟨A1, c1, rfl, _, in9⟩:=iz.form
 replace L:=(L.step be).n in9
 clear be iz in9
 have hl9:=L.b0.lt
 replace L:=L.varD w1.heap.size rfl (ng Mh) A1 (zl Mh) c1 Eh
 obtain ⟨c00,c01,c02⟩:=L.b0.a3
 obtain ⟨c20,c21,c22,c23⟩:=L.tl.tl.b0.a4
 (try go_wp2_with fail)
 clear c00 c01 c02 c20 c21 c22 c23
 obtain ⟨g1, hg1⟩:=nm9 (w1.heap.size)
 rw [hg1] at L hl9 ⊢
 clear hg1
 have hl_g1:=hl9
 clear hl9
 refine (G2.out _ _ (isD_n (m:=Mh) (e:=Eh) (s:=.slice A1 (zl Mh) c1) (L.getN (by simp))) L.below).mono ?_
 rintro e w2 ⟨v9, rfl, iz, be⟩
 obtain ⟨A2, c2, rfl, _, in9⟩:=iz.form
 replace L:=(L.step be).n in9
 clear be iz in9
 obtain ⟨c00,c01,c02⟩:=L.b0.a3
 obtain ⟨f00,f01,f02⟩:=L.b0.f3
 obtain ⟨c20,c21,c22,c23⟩:=L.tl.tl.b0.a4
 have P:=L.putD (by omega) (by first | (simp; done) | (simp; omega)) (ng MH) A2 (zl MH) c2 EH
 obtain ⟨p00,p01,p02⟩:=P.b0.a3
 have p23:=P.tl.tl.b0.c43
 unfold put3 at p00 p01 p02 p23 P
 (try go_wp2_with fail)
 replace L:=P
 clear P p00 p01 p02 p23
 clear c00 f00 c01 f01 c02 f02 c20 c21 c22 c23
 refine (G3.out _ _ (isA_n (m:=MH) (e:=EH) (p:=(p : Int)) (s:=.slice A2 (zl MH) c2) (L.getN (by simp))) L.below).mono ?_
 rintro e w3 ⟨v9, rfl, iz, be⟩
 obtain ⟨A3, c3, rfl, _, in9⟩:=iz.form
 replace L:=(L.step be).n in9
 clear be iz in9
 have hl9:=L.b0.lt
 replace L:=L.varD w3.heap.size rfl (ng MS) A3 (zl MS) c3 ES
 obtain ⟨c00,c01,c02⟩:=L.b0.a3
 obtain ⟨c30,c31,c32,c33⟩:=L.tl.tl.tl.b0.a4
 (try go_wp2_with fail)
 clear c00 c01 c02 c30 c31 c32 c33
 obtain ⟨g2, hg2⟩:=nm9 (w3.heap.size)
 rw [hg2] at L hl9 ⊢
 clear hg2
 have hl_g2:=hl9
 clear hl9
 refine (G4.out _ _ _ (isD_n (m:=MS) (e:=ES) (s:=.slice A3 (zl MS) c3) (L.getN (by simp))) (isD_n (m:=MS) (e:=ES) (s:=.slice A3 (zl MS) c3) (L.getN (by simp))) L.below).mono ?_
 rintro e w4 ⟨v9, rfl, iz, be⟩
 obtain ⟨A4, c4, rfl, _, in9⟩:=iz.form
 replace L:=(L.step be).n in9
 clear be iz in9
 (try go_wp2_with fail)
 refine (G5.out _ _ (isD_n (m:=MD) (e:=ED) (s:=.slice A4 (zl MD) c4) (L.getN (by simp))) L.below).mono ?_
 rintro e w5 ⟨v9, rfl, iz, be⟩
 obtain ⟨A5, c5, rfl, _, in9⟩:=iz.form
 replace L:=(L.step be).n in9
 clear be iz in9
 have hl9:=L.b0.lt
 replace L:=L.varD w5.heap.size rfl (ng M2) A5 (zl M2) c5 E2
 obtain ⟨c00,c01,c02⟩:=L.b0.a3
 (try go_wp2_with fail)
 clear c00 c01 c02
 obtain ⟨g3, hg3⟩:=nm9 (w5.heap.size)
 rw [hg3] at L hl9 ⊢
 clear hg3
 have hl_g3:=hl9
 clear hl9
 obtain ⟨V, hV, L9⟩:=L.name
 rw [hV]
 clear hV L
 have L:=L9
 clear L9
 have Q0:=Hd9 (fun Z (hZ : Below V.heap.size V Z) => (L.b0.mono hZ).c30)
 have Q1:=Hd9 (fun Z (hZ : Below V.heap.size V Z) => (L.b0.mono hZ).c31)
 have Q2:=Hd9 (fun Z (hZ : Below V.heap.size V Z) => (L.b0.mono hZ).c32)
 have hb0:=L.b0.lt
 have hb1:=L.tl.tl.tl.b0.lt
 have D0 : Dq V V [(.slice A5 (zl M2) c5, (M2 : Int).natAbs)] [] [] []:=⟨((Lq.mk0 V).n (L.getN (v:=.slice A5 (zl M2) c5) (x:=(M2 : Int).natAbs) (by simp))), List.nodup_nil, fun p hp => by cases hp⟩
 have D:=D0.drew
 have hVw:=L.below.size
 have HVW:=Hd9 (fun Z (hZ : Below V.heap.size V Z) => L.below.trans (hZ.mono hVw))
 have LL:=Hd9 L
 clear L
 obtain ⟨K, hK⟩:=nm9 (V.heap.size)
 have hz0 : K ≤ V.heap.size:=by omega
 have hmd : V.drew.heap.size = K:=hK
 have hc0 : g3 < K:=by omega
 have hc1 : w.heap.size + 1 < K:=by omega
 go_cut [8, 9] from 37 to 42 (fun s0 s1 wx => s1 = .int .i64 0 ∧ Made1D V MR ER s0 wx)
 case first =>
  go_region_held3 (fun w' => w'.cell? ⟨g3, 0, none⟩ = some (.bool (ng M2)) ∧ w'.cell? ⟨g3, 1, none⟩ = some (.slice A5 (zl M2) c5) ∧ w'.cell? ⟨g3, 2, none⟩ = some (.int .i64 E2)) (((try dsimp only); refine ⟨?_, ?_, ?_⟩ <;> (repeat (first | (with_reducible exact Q0.out _ D.lq.below) | (with_reducible exact Q0.out _ D0.lq.below) | (with_reducible exact Q1.out _ D.lq.below) | (with_reducible exact Q1.out _ D0.lq.below) | (with_reducible exact Q2.out _ D.lq.below) | (with_reducible exact Q2.out _ D0.lq.below) | (with_reducible refine c_alloc _ ?_) | (with_reducible refine c_drew ?_) | (with_reducible refine c_set ?_ (by assumption) ?_) | omega)))) (first | (go_at_call 111; (with_reducible refine (G6.out _ ?_).mono ?_); (· (first | (with_reducible exact HVW.out _ D.lq.below) | (with_reducible exact HVW.out _ (D.boxD false none 0 0 0).lq.below) | (with_reducible exact HVW.out _ (D0.boxD false none 0 0 0).drew.lq.below))); rintro e9 wh ⟨vh, rfl, id, be⟩; obtain ⟨A7, c7, rfl, _, in9⟩:=id.form; (first | (replace D:=D.step be) | (replace D:=(D.boxMD hmd false none 0 0 0).step be) | (replace D:=(D.boxD false none 0 0 0).step be)); have hz:=be.size; (try simp at hz); replace D:=D.n in9; (try (obtain ⟨x00,x01,x02⟩:=D.lq.b0.a3; obtain ⟨y00,y01,y02⟩:=D.lq.b0.f3)); (try obtain ⟨na, nb, nc, nd, nl⟩:=D.n0)) | (go_at_call 123; (with_reducible refine (G7.out _ _ _ ?_ ?_ ?_).mono ?_); (· (first | (with_reducible refine isD_n (D.getN ?_); (repeat (first | (with_reducible exact mS) | apply mT))) | (with_reducible refine isD_n ((D.boxD false none 0 0 0).getN ?_); (repeat (first | (with_reducible exact mS) | apply mT))) | (with_reducible refine isD_n ((D0.boxD false none 0 0 0).drew.getN ?_); (repeat (first | (with_reducible exact mS) | apply mT))))); (· (first | (with_reducible refine isD_n (D.getN ?_); (repeat (first | (with_reducible exact mS) | apply mT))) | (with_reducible refine isD_n ((D.boxD false none 0 0 0).getN ?_); (repeat (first | (with_reducible exact mS) | apply mT))) | (with_reducible refine isD_n ((D0.boxD false none 0 0 0).drew.getN ?_); (repeat (first | (with_reducible exact mS) | apply mT))))); (· (first | (with_reducible exact HVW.out _ D.lq.below) | (with_reducible exact HVW.out _ (D.boxD false none 0 0 0).lq.below) | (with_reducible exact HVW.out _ (D0.boxD false none 0 0 0).drew.lq.below))); rintro e9 wh ⟨vh, rfl, id, be⟩; obtain ⟨A8, c8, rfl, _, in9⟩:=id.form; (first | (replace D:=D.step be) | (replace D:=(D.boxMD hmd false none 0 0 0).step be) | (replace D:=(D.boxD false none 0 0 0).step be)); have hz:=be.size; (try simp at hz); replace D:=D.n in9; (try (obtain ⟨x00,x01,x02⟩:=D.lq.b0.a3; obtain ⟨y00,y01,y02⟩:=D.lq.b0.f3)); (try obtain ⟨na, nb, nc, nd, nl⟩:=D.n0)))
  all_goals
   go_wp2_with fail
   go_meet
   refine ⟨rfl, ?_⟩
   first
   | ((with_reducible refine made1d_a D ?_) <;> (repeat (first | (with_reducible exact mS) | apply mT)))
   | ((with_reducible refine made1d_b D ?_) <;> (repeat (first | (with_reducible exact mS) | apply mT)))
 case rest =>
  obtain ⟨rfl, g4, A9, c9, rfl, hg9, bw, hb9, q1⟩:=hcut
  have L:=((LL.out.step bw).n q1).b hb9
  have hl_g4:=hg9
  clear D D0 hmd LL hb9 q1 bw hg9 HVW Q0 Q1 Q2 hc0 hc1
  generalize wc = wd5 at *
  have hv9:=L.b0
  have hl9:=hv9.lt
  have L9:=L.subx (ns':=[(.slice A9 (zl MR) c9, MR.natAbs)]) (bs':=[(w.heap.size + 1, 26, #[.bool false, .slice none 0 0, .int .i64 0]), (g4, 26, #[.bool (ng MR), .slice A9 (zl MR) c9, .int .i64 ER])]) (by simp) (by simp)
  clear L hv9
  have L:=L9
  clear L9
  have n9 : w.heap.size + 1 ≠ g4:=by omega
  obtain ⟨c00,c01,c02⟩:=L.b0.a3
  obtain ⟨f00,f01,f02⟩:=L.b0.f3
  obtain ⟨c10,c11,c12⟩:=L.tl.b0.a3
  (try go_wp2_with fail)
  clear c00 f00 c01 f01 c02 f02 c10 c11 c12
  have LP:=L.putD (by omega) (by first | (simp; done) | (simp; omega)) (ng MR) A9 (zl MR) c9 (ER)
  obtain ⟨k0,k1,k2⟩:=LP.b0.a3
  unfold put3 at k0 k1 k2
  exact bodyPost_ret (v:=.agg #[.bool (ng MR), .slice A9 (zl MR) c9, .int .i64 (ER)]) (by simp [results, Tryz.results239, go_sem, k0, k1, k2]) rfl ⟨_, rfl, isD_n (LP.getN (by simp)), LP.below⟩

theorem plainQ8 (F0 F1 F2 F3 : Nat) (b0 b1 b2 b3 : Bool) : Plain #[.func (.func F0) #[] #[], .bool b0, .func (.func F1) #[] #[], .bool b1, .func (.func F2) #[] #[], .bool b2, .func (.func F3) #[] #[], .bool b3]:=fun j x => by
 match j with
 | 0 => simp
 | 1 => simp
 | 2 => simp
 | 3 => simp
 | 4 => simp
 | 5 => simp
 | 6 => simp
 | 7 => simp
 | j + 8 => simp
theorem plainQ2 (F0 : Nat) (b0 : Bool) : Plain #[.func (.func F0) #[] #[], .bool b0]:=fun j x => by
 match j with
 | 0 => simp
 | 1 => simp
 | j + 2 => simp

theorem ydir_any (t R : Int) (p : Nat) (vx : Value) (w : World) (hx : IsX w vx t (mkM R (-(p : Int))) (mkE R (-(p : Int))) (p : Int)) (h1 : R.natAbs ≤ 2 ^ p) (hp : p ≤ 240) (hp2 : 64 ≤ p) (hT : Tab w) :
  Calls Tryz.prog 201 #[vx] w (RetD8 w (mkM (diI p t R) (-(p : Int))) (mkE (diI p t R) (-(p : Int)))):=by
 obtain ⟨A, c, rfl, hn⟩:=hx.form
 have L0:=(Lq.mk0 w).n hn
 have hb:=bits_3 t
 have dk:=diI_ok t h1 hp hp2
 have aS : AbP (siI p R) (p + 1):=(siI_ok h1 hp hp2).ab
 have aC : AbP (coI p R) (p + 1):=(coI_ok h1 hp hp2).ab
 obtain ⟨s1, s2, s3, s4, s5⟩:=nx (x := -(p : Int)) aS (by omega) (by omega)
 obtain ⟨c1, c2, c3, c4, c5⟩:=nx (x := -(p : Int)) aC (by omega) (by omega)
 obtain ⟨ns1, ns2⟩:=nx_neg9 aS (by omega) (show -6000 ≤ -(p : Int) ∧ -(p : Int) ≤ 100 by omega)
 obtain ⟨nc1, nc2⟩:=nx_neg9 aC (by omega) (show -6000 ≤ -(p : Int) ∧ -(p : Int) ≤ 100 by omega)
 have g1:=fun x W h (hW : Below w.heap.size w W) => ysin_any R p x W h h1 hp hp2 (hT.mono hW)
 have g2:=fun x W h (hW : Below w.heap.size w W) => ycos_any R p x W h h1 hp hp2 (hT.mono hW)
 have g3:=fun v W h => dneg_any (mkM (siI p R) (-(p : Int))) (mkE (siI p R) (-(p : Int))) v W h (by omega)
 have g4:=fun v W h => dneg_any (mkM (coI p R) (-(p : Int))) (mkE (coI p R) (-(p : Int))) v W h (by omega)
 rw [← ns1] at g3
 rw [← nc1] at g4
 have G1:=Hd9 g1
 have G2:=Hd9 g2
 have G3:=Hd9 g3
 have G4:=Hd9 g4
 have henS : ∀ args w, (callFunc 238 args).run Tryz.prog w = .ok (.enter 238 args) w:=enters_of Tryz.func238 (by kernel_rfl) rfl
 have henC : ∀ args w, (callFunc 239 args).run Tryz.prog w = .ok (.enter 239 args) w:=enters_of Tryz.func239 (by kernel_rfl) rfl
 have hsfS:=fun (a : Addr) (W : World) => run_store Tryz.prog W a (.func (.func 238) #[] #[]) .plain rfl
 have hsfC:=fun (a : Addr) (W : World) => run_store Tryz.prog W a (.func (.func 239) #[] #[]) .plain rfl
 have h4 : t % 4 = 0 ∨ t % 4 = 1 ∨ t % 4 = 2 ∨ t % 4 = 3:=by omega
 unfold diI
 clear g1 g2 g3 g4 dk aS aC s1 s2 s3 s4 s5 c1 c2 c3 c4 c5 ns1 nc1 hx hn h1 hp hp2 hT
 rcases h4 with h4 | h4
 ·rw [h4] at hb ⊢
  simp only [if_true, if_false]
  generalize mkM (siI p R) (-(p : Int)) = M at *
  generalize mkE (siI p R) (-(p : Int)) = E at *
  generalize mkM R (-(p : Int)) = M0 at *
  generalize mkE R (-(p : Int)) = E0 at *
  clear ns2 nc2 h4
  go_enter Tryz.func201, Tryz.ntmps201
  have L:=((L0.varDi (w.heap.size) (by simp) t (ng M0) A (zl M0) c E0 (p : Int)).varD (w.heap.size + 1) (by simp) false none 0 0 0)
  have LV:=L.var (w.heap.size + 2) (by simp) 202 #[.func (.func 238) #[] #[], .bool false, .func (.func 239) #[] #[], .bool false, .func (.func 238) #[] #[], .bool true, .func (.func 239) #[] #[], .bool true] (plainQ8 _ _ _ _ _ _ _ _)
  have LW:=LV.var (w.heap.size + 3) (by simp) 201 #[.func (.func 238) #[] #[], .bool false] (plainQ2 _ _)
  have v0:=LV.b0.cell 0
  have v1:=LV.b0.cell 1
  simp only [List.getElem?_toArray, List.getElem?_cons_zero, List.getElem?_cons_succ] at v0 v1
  have e0:=LV.tl.tl.b0.c50
  have x0:=LW.tl.tl.tl.b0.c50
  have x1:=LW.tl.tl.tl.b0.c51
  have x2:=LW.tl.tl.tl.b0.c52
  have x3:=LW.tl.tl.tl.b0.c53
  have x4:=LW.tl.tl.tl.b0.c54
  obtain ⟨y0,y1⟩:=LW.b0.a2
  (try go_wp2_with fail)
  clear v0 v1 e0 x0 x1 x2 x3 x4 y0 y1 LV L
  have L:=LW
  clear LW
  refine (G1.out _ _ (isA_n (m:=M0) (e:=E0) (p:=(p : Int)) (s:=.slice A (zl M0) c) (L.getN (by simp))) L.below).mono ?_
  rintro e w1 ⟨v9, rfl, iz, be⟩
  obtain ⟨A3, c3, rfl, _, in9⟩:=iz.form
  replace L:=(L.step be).n in9
  clear be iz in9
  have hl9:=L.b0.lt
  have n9 : w.heap.size + 1 ≠ w1.heap.size:=by omega
  replace L:=L.varD w1.heap.size rfl (ng M) A3 (zl M) c3 E
  obtain ⟨c00,c01,c02⟩:=L.b0.a3
  obtain ⟨c10,c11⟩:=L.tl.b0.a2
  obtain ⟨c30,c31,c32⟩:=L.tl.tl.tl.b0.a3
  obtain ⟨f30,f31,f32⟩:=L.tl.tl.tl.b0.f3
  (try go_wp2_with fail)
  clear c00 c01 c02 c10 c11 c30 f30 c31 f31 c32 f32
  have L9:=L.subx (ns':=[(.slice A3 (zl M) c3, M.natAbs)]) (bs':=[(w.heap.size + 1, 26, #[.bool false, .slice none 0 0, .int .i64 0])]) (by simp) (by simp)
  clear L
  have L:=L9
  clear L9
  have LP:=L.putD (by omega) (by first | (simp; done) | (simp; omega)) (ng M) A3 (zl M) c3 (E)
  obtain ⟨k0,k1,k2⟩:=LP.b0.a3
  unfold put3 at k0 k1 k2
  exact bodyPost_ret (v:=.agg #[.bool (ng M), .slice A3 (zl M) c3, .int .i64 (E)]) (by simp [results, Tryz.results201, go_sem, k0, k1, k2]) rfl ⟨_, rfl, isD_n (LP.getN (by simp)), LP.below⟩
 rcases h4 with h4 | h4
 ·rw [h4] at hb ⊢
  simp only [if_true, if_false, show ¬ ((1 : Int) = 0) by omega]
  generalize mkM (coI p R) (-(p : Int)) = M at *
  generalize mkE (coI p R) (-(p : Int)) = E at *
  generalize mkM R (-(p : Int)) = M0 at *
  generalize mkE R (-(p : Int)) = E0 at *
  clear ns2 nc2 h4
  go_enter Tryz.func201, Tryz.ntmps201
  have L:=((L0.varDi (w.heap.size) (by simp) t (ng M0) A (zl M0) c E0 (p : Int)).varD (w.heap.size + 1) (by simp) false none 0 0 0)
  have LV:=L.var (w.heap.size + 2) (by simp) 202 #[.func (.func 238) #[] #[], .bool false, .func (.func 239) #[] #[], .bool false, .func (.func 238) #[] #[], .bool true, .func (.func 239) #[] #[], .bool true] (plainQ8 _ _ _ _ _ _ _ _)
  have LW:=LV.var (w.heap.size + 3) (by simp) 201 #[.func (.func 239) #[] #[], .bool false] (plainQ2 _ _)
  have v0:=LV.b0.cell 2
  have v1:=LV.b0.cell 3
  simp only [List.getElem?_toArray, List.getElem?_cons_zero, List.getElem?_cons_succ] at v0 v1
  have e0:=LV.tl.tl.b0.c50
  have x0:=LW.tl.tl.tl.b0.c50
  have x1:=LW.tl.tl.tl.b0.c51
  have x2:=LW.tl.tl.tl.b0.c52
  have x3:=LW.tl.tl.tl.b0.c53
  have x4:=LW.tl.tl.tl.b0.c54
  obtain ⟨y0,y1⟩:=LW.b0.a2
  (try go_wp2_with fail)
  clear v0 v1 e0 x0 x1 x2 x3 x4 y0 y1 LV L
  have L:=LW
  clear LW
  refine (G2.out _ _ (isA_n (m:=M0) (e:=E0) (p:=(p : Int)) (s:=.slice A (zl M0) c) (L.getN (by simp))) L.below).mono ?_
  rintro e w1 ⟨v9, rfl, iz, be⟩
  obtain ⟨A3, c3, rfl, _, in9⟩:=iz.form
  replace L:=(L.step be).n in9
  clear be iz in9
  have hl9:=L.b0.lt
  have n9 : w.heap.size + 1 ≠ w1.heap.size:=by omega
  replace L:=L.varD w1.heap.size rfl (ng M) A3 (zl M) c3 E
  obtain ⟨c00,c01,c02⟩:=L.b0.a3
  obtain ⟨c10,c11⟩:=L.tl.b0.a2
  obtain ⟨c30,c31,c32⟩:=L.tl.tl.tl.b0.a3
  obtain ⟨f30,f31,f32⟩:=L.tl.tl.tl.b0.f3
  (try go_wp2_with fail)
  clear c00 c01 c02 c10 c11 c30 f30 c31 f31 c32 f32
  have L9:=L.subx (ns':=[(.slice A3 (zl M) c3, M.natAbs)]) (bs':=[(w.heap.size + 1, 26, #[.bool false, .slice none 0 0, .int .i64 0])]) (by simp) (by simp)
  clear L
  have L:=L9
  clear L9
  have LP:=L.putD (by omega) (by first | (simp; done) | (simp; omega)) (ng M) A3 (zl M) c3 (E)
  obtain ⟨k0,k1,k2⟩:=LP.b0.a3
  unfold put3 at k0 k1 k2
  exact bodyPost_ret (v:=.agg #[.bool (ng M), .slice A3 (zl M) c3, .int .i64 (E)]) (by simp [results, Tryz.results201, go_sem, k0, k1, k2]) rfl ⟨_, rfl, isD_n (LP.getN (by simp)), LP.below⟩
 rcases h4 with h4 | h4
 ·rw [h4] at hb ⊢
  simp only [if_true, if_false, show ¬ ((2 : Int) = 0) by omega, show ¬ ((2 : Int) = 1) by omega]
  rw [ns2]
  generalize mkM (-siI p R) (-(p : Int)) = MN at *
  generalize mkM (siI p R) (-(p : Int)) = M at *
  generalize mkE (siI p R) (-(p : Int)) = E at *
  generalize mkM R (-(p : Int)) = M0 at *
  generalize mkE R (-(p : Int)) = E0 at *
  clear ns2 nc2 h4
  go_enter Tryz.func201, Tryz.ntmps201
  have L:=((L0.varDi (w.heap.size) (by simp) t (ng M0) A (zl M0) c E0 (p : Int)).varD (w.heap.size + 1) (by simp) false none 0 0 0)
  have LV:=L.var (w.heap.size + 2) (by simp) 202 #[.func (.func 238) #[] #[], .bool false, .func (.func 239) #[] #[], .bool false, .func (.func 238) #[] #[], .bool true, .func (.func 239) #[] #[], .bool true] (plainQ8 _ _ _ _ _ _ _ _)
  have LW:=LV.var (w.heap.size + 3) (by simp) 201 #[.func (.func 238) #[] #[], .bool true] (plainQ2 _ _)
  have v0:=LV.b0.cell 4
  have v1:=LV.b0.cell 5
  simp only [List.getElem?_toArray, List.getElem?_cons_zero, List.getElem?_cons_succ] at v0 v1
  have e0:=LV.tl.tl.b0.c50
  have x0:=LW.tl.tl.tl.b0.c50
  have x1:=LW.tl.tl.tl.b0.c51
  have x2:=LW.tl.tl.tl.b0.c52
  have x3:=LW.tl.tl.tl.b0.c53
  have x4:=LW.tl.tl.tl.b0.c54
  obtain ⟨y0,y1⟩:=LW.b0.a2
  (try go_wp2_with fail)
  clear v0 v1 e0 x0 x1 x2 x3 x4 y0 y1 LV L
  have L:=LW
  clear LW
  refine (G1.out _ _ (isA_n (m:=M0) (e:=E0) (p:=(p : Int)) (s:=.slice A (zl M0) c) (L.getN (by simp))) L.below).mono ?_
  rintro e w1 ⟨v9, rfl, iz, be⟩
  obtain ⟨A3, c3, rfl, _, in9⟩:=iz.form
  replace L:=(L.step be).n in9
  clear be iz in9
  have hl9:=L.b0.lt
  replace L:=L.varD w1.heap.size rfl (ng M) A3 (zl M) c3 E
  obtain ⟨c00,c01,c02⟩:=L.b0.a3
  obtain ⟨c10,c11⟩:=L.tl.b0.a2
  (try go_wp2_with fail)
  clear c00 c01 c02 c10 c11
  obtain ⟨g5, hg5⟩:=nm9 (w1.heap.size)
  rw [hg5] at L hl9 ⊢
  clear hg5
  have hl_g5:=hl9
  clear hl9
  refine (G3.out _ _ (isD_n (m:=M) (e:=E) (s:=.slice A3 (zl M) c3) (L.getN (by simp)))).mono ?_
  rintro e w2 ⟨v9, rfl, iz, be⟩
  obtain ⟨A4, c4, rfl, _, in9⟩:=iz.form
  replace L:=(L.step be).n in9
  clear be iz in9
  have L9:=L.subx (ns':=[(.slice A4 (zl MN) c4, MN.natAbs)]) (bs':=[(w.heap.size + 1, 26, #[.bool false, .slice none 0 0, .int .i64 0])]) (by simp) (by simp)
  clear L
  have L:=L9
  clear L9
  obtain ⟨c00,c01,c02⟩:=L.b0.a3
  obtain ⟨f00,f01,f02⟩:=L.b0.f3
  (try go_wp2_with fail)
  have LP:=L.putD (by omega) (by first | (simp; done) | (simp; omega)) (ng MN) A4 (zl MN) c4 (E)
  obtain ⟨k0,k1,k2⟩:=LP.b0.a3
  unfold put3 at k0 k1 k2
  exact bodyPost_ret (v:=.agg #[.bool (ng MN), .slice A4 (zl MN) c4, .int .i64 (E)]) (by simp [results, Tryz.results201, go_sem, k0, k1, k2]) rfl ⟨_, rfl, isD_n (LP.getN (by simp)), LP.below⟩
 rw [h4] at hb ⊢
 simp only [if_true, if_false, show ¬ ((3 : Int) = 0) by omega, show ¬ ((3 : Int) = 1) by omega, show ¬ ((3 : Int) = 2) by omega]
 rw [nc2]
 generalize mkM (-coI p R) (-(p : Int)) = MN at *
 generalize mkM (coI p R) (-(p : Int)) = M at *
 generalize mkE (coI p R) (-(p : Int)) = E at *
 generalize mkM R (-(p : Int)) = M0 at *
 generalize mkE R (-(p : Int)) = E0 at *
 clear ns2 nc2 h4
 go_enter Tryz.func201, Tryz.ntmps201
 have L:=((L0.varDi (w.heap.size) (by simp) t (ng M0) A (zl M0) c E0 (p : Int)).varD (w.heap.size + 1) (by simp) false none 0 0 0)
 have LV:=L.var (w.heap.size + 2) (by simp) 202 #[.func (.func 238) #[] #[], .bool false, .func (.func 239) #[] #[], .bool false, .func (.func 238) #[] #[], .bool true, .func (.func 239) #[] #[], .bool true] (plainQ8 _ _ _ _ _ _ _ _)
 have LW:=LV.var (w.heap.size + 3) (by simp) 201 #[.func (.func 239) #[] #[], .bool true] (plainQ2 _ _)
 have v0:=LV.b0.cell 6
 have v1:=LV.b0.cell 7
 simp only [List.getElem?_toArray, List.getElem?_cons_zero, List.getElem?_cons_succ] at v0 v1
 have e0:=LV.tl.tl.b0.c50
 have x0:=LW.tl.tl.tl.b0.c50
 have x1:=LW.tl.tl.tl.b0.c51
 have x2:=LW.tl.tl.tl.b0.c52
 have x3:=LW.tl.tl.tl.b0.c53
 have x4:=LW.tl.tl.tl.b0.c54
 obtain ⟨y0,y1⟩:=LW.b0.a2
 (try go_wp2_with fail)
 clear v0 v1 e0 x0 x1 x2 x3 x4 y0 y1 LV L
 have L:=LW
 clear LW
 refine (G2.out _ _ (isA_n (m:=M0) (e:=E0) (p:=(p : Int)) (s:=.slice A (zl M0) c) (L.getN (by simp))) L.below).mono ?_
 rintro e w1 ⟨v9, rfl, iz, be⟩
 obtain ⟨A3, c3, rfl, _, in9⟩:=iz.form
 replace L:=(L.step be).n in9
 clear be iz in9
 have hl9:=L.b0.lt
 replace L:=L.varD w1.heap.size rfl (ng M) A3 (zl M) c3 E
 obtain ⟨c00,c01,c02⟩:=L.b0.a3
 obtain ⟨c10,c11⟩:=L.tl.b0.a2
 (try go_wp2_with fail)
 clear c00 c01 c02 c10 c11
 obtain ⟨g5, hg5⟩:=nm9 (w1.heap.size)
 rw [hg5] at L hl9 ⊢
 clear hg5
 have hl_g5:=hl9
 clear hl9
 refine (G4.out _ _ (isD_n (m:=M) (e:=E) (s:=.slice A3 (zl M) c3) (L.getN (by simp)))).mono ?_
 rintro e w2 ⟨v9, rfl, iz, be⟩
 obtain ⟨A4, c4, rfl, _, in9⟩:=iz.form
 replace L:=(L.step be).n in9
 clear be iz in9
 have L9:=L.subx (ns':=[(.slice A4 (zl MN) c4, MN.natAbs)]) (bs':=[(w.heap.size + 1, 26, #[.bool false, .slice none 0 0, .int .i64 0])]) (by simp) (by simp)
 clear L
 have L:=L9
 clear L9
 obtain ⟨c00,c01,c02⟩:=L.b0.a3
 obtain ⟨f00,f01,f02⟩:=L.b0.f3
 (try go_wp2_with fail)
 have LP:=L.putD (by omega) (by first | (simp; done) | (simp; omega)) (ng MN) A4 (zl MN) c4 (E)
 obtain ⟨k0,k1,k2⟩:=LP.b0.a3
 unfold put3 at k0 k1 k2
 exact bodyPost_ret (v:=.agg #[.bool (ng MN), .slice A4 (zl MN) c4, .int .i64 (E)]) (by simp [results, Tryz.results201, go_sem, k0, k1, k2]) rfl ⟨_, rfl, isD_n (LP.getN (by simp)), LP.below⟩


end Go.Proofs.YtiddbhhhmeopeaaGreatDoor
