/- Joined: LnK, LnV, CpD, IvPC, IvPD, CpA, CpB, IvPE, CpC, ExC, LnC, ArPB, ArPD, ArPF, ArDv, LnW, RefLnS, RefCoC, RefCoD, RefCoE, ExS (what the law leans on). -/
import Derived.Test.YtmgbjldogggpcaaGreatDoorBaseDL
import Derived.Test.YtmgbjldogggpcaaGreatDoorBaseEL
import Derived.Test.YtmgbjldogggpcaaGreatDoorBaseVL
import Derived.Test.YtmgbjldogggpcaaGreatDoorBaseFL
import Derived.Test.YtmgbjldogggpcaaGreatDoorBaseWL
import Derived.Test.YtmgbjldogggpcaaGreatDoorRefDivModL
import Derived.Test.YtmgbjldogggpcaaGreatDoorBaseGL
import Derived.Test.YtmgbjldogggpcaaGreatDoorBaseXL
import Derived.Test.YtmgbjldogggpcaaGreatDoorGrPCL
import Derived.Test.YtmgbjldogggpcaaGreatDoorBaseUL
import Derived.Test.YtmgbjldogggpcaaGreatDoorBaseZL
import Derived.Test.YtmgbjldogggpcaaGreatDoorJL1
import Derived.Deep.Cut
import Derived.Deep.CutRange
import Derived.Deep.DrawnRows
import Derived.Deep.RegionHeld3
import Derived.Laws.AppendOwn
import Derived.Laws.OwnMore
import Derived.Lib.SliceRun
import Derived.Lib.SmallJoins
namespace Go.Proofs.YtmgbjldogggpcaaGreatDoor
set_option maxHeartbeats 64000000
open Go.RowKit
set_option linter.unusedVariables false
set_option linter.unusedSimpArgs false
set_option maxRecDepth 100000
attribute [local go_sem ↓] Go.wp_at_zero Go.wp_at_succ
def spN (m : Int) : Nat:=blen m.natAbs
def spB (m : Int) : Bool:=decide (4 * m < 3 * 2 ^ spN m)
def spK (m e : Int) : Int:=if spB m then e + (spN m : Int) - 1 else e + (spN m : Int)
def spE (m : Int) : Int:=if spB m then 1 - (spN m : Int) else -(spN m : Int)
theorem dv_at {m e x : Int} (h : Dv m e) (hm : 0 < m) (hx : -60000 ≤ x ∧ x ≤ 60000) : Dv m x:=by
 rcases h with ⟨h1, _⟩ | ⟨h1, h2⟩
 ·omega
 ·refine Or.inr ⟨h1, ?_⟩
  unfold fits8 at *
  rw [Bool.and_eq_true, Bool.and_eq_true, Bool.and_eq_true] at h2
  rw [h2.1, h2.2.2.2, decide_eq_true (show -65536 ≤ x by omega), decide_eq_true (show x ≤ 65536 by omega)]
  rfl
theorem dv_mk {m x : Int} (h : Dv m x) (hz : zl m ≤ 700) (hx : -20000 ≤ x ∧ x ≤ 20000) : mkR m x = 0 ∧ mkM m x = m ∧ mkE m x = x:=by
 have hr : mkR m x = 0:=mk_fits9 hz (by omega) (by omega)
 exact ⟨hr, dv_uniq (mk_ok hr) h (dq_mk hr)⟩
theorem spN_bd {m : Int} (h : 0 < m) : 1 ≤ spN m ∧ m < 2 ^ spN m ∧ 2 ^ (spN m - 1) ≤ m:=by
 have h1:=blen_pos (x:=m.natAbs) (by omega)
 have h2:=lt_two_pow_blen m.natAbs
 have h3:=two_pow_blen_le (x:=m.natAbs) (by omega)
 have c1 : ((2 ^ blen m.natAbs : Nat) : Int) = 2 ^ blen m.natAbs:=by push_cast; rfl
 have c2 : ((2 ^ (blen m.natAbs - 1) : Nat) : Int) = 2 ^ (blen m.natAbs - 1):=by push_cast; rfl
 unfold spN
 omega
theorem spN_le (m : Int) : spN m ≤ 32 * zl m:=blen_le_len m.natAbs
theorem sp_bd {m : Int} (h : 0 < m) : 3 / 4 ≤ dq m (spE m) ∧ dq m (spE m) < 3 / 2:=by
 obtain ⟨h1, h2, h3⟩:=spN_bd h
 obtain ⟨n, hn⟩ : ∃ n, spN m = n + 1:=⟨spN m - 1, by omega⟩
 have hp:=Int.pow_succ 2 n
 have q1 : dq (3 * 2 ^ (n + 1)) (-((n + 1 : Nat) : Int) - 2) = 3 / 4:=by
  rw [show -((n + 1 : Nat) : Int) - 2 = -2 + -((n + 1 : Nat) : Int) by omega, dq_mul, one_p, Rat.mul_one]
  decide +kernel
 have q2 : dq (3 * 2 ^ (n + 1)) (-((n + 1 : Nat) : Int) - 1) = 3 / 2:=by
  rw [show -((n + 1 : Nat) : Int) - 1 = -1 + -((n + 1 : Nat) : Int) by omega, dq_mul, one_p, Rat.mul_one]
  decide +kernel
 have up : ∀ (F : Int) (j : Nat), F ≤ -((n + 1 : Nat) : Int) + 1 → dq m (F + j) = dq (m * 2 ^ j) F:=fun F j _ => by
  refine dq_eq (F:=F) ?_ (by omega) (by omega)
  rw [show (F + j - F).toNat = j by omega, show (F - F).toNat = 0 by omega]
  simp
 unfold spE spB
 rw [hn] at h2 h3 ⊢
 rw [Nat.add_sub_cancel] at h3
 by_cases c : 4 * m < 3 * 2 ^ (n + 1)
 ·rw [decide_eq_true c, if_pos rfl]
  have e1:=up (-((n + 1 : Nat) : Int) - 2) 3 (by omega)
  rw [show -((n + 1 : Nat) : Int) - 2 + ((3 : Nat) : Int) = 1 - ((n + 1 : Nat) : Int) by omega] at e1
  have e2:=up (-((n + 1 : Nat) : Int) - 1) 2 (by omega)
  rw [show -((n + 1 : Nat) : Int) - 1 + ((2 : Nat) : Int) = 1 - ((n + 1 : Nat) : Int) by omega] at e2
  constructor
  ·rw [e1, ← q1]
   exact (dq_le_iff _ _ _).2 (by omega)
  ·rw [e2, ← q2]
   refine Rat.not_le.1 fun hle => ?_
   have:=(dq_le_iff _ _ _).1 hle
   omega
 ·rw [decide_eq_false c, if_neg (by decide)]
  have e1:=up (-((n + 1 : Nat) : Int) - 2) 2 (by omega)
  rw [show -((n + 1 : Nat) : Int) - 2 + ((2 : Nat) : Int) = -((n + 1 : Nat) : Int) by omega] at e1
  have e2:=up (-((n + 1 : Nat) : Int) - 1) 1 (by omega)
  rw [show -((n + 1 : Nat) : Int) - 1 + ((1 : Nat) : Int) = -((n + 1 : Nat) : Int) by omega] at e2
  constructor
  ·rw [e1, ← q1]
   exact (dq_le_iff _ _ _).2 (by omega)
  ·rw [e2, ← q2]
   refine Rat.not_le.1 fun hle => ?_
   have:=(dq_le_iff _ _ _).1 hle
   omega
theorem sp_sum (m e : Int) : spK m e + spE m = e:=by unfold spK spE; split <;> omega
theorem sp_rng {m e : Int} {z : Nat} (hz : zl m ≤ z) : -(32 * (z : Int)) ≤ spE m ∧ spE m ≤ 1 ∧ e - 1 ≤ spK m e ∧ spK m e ≤ e + 32 * (z : Int):=by
 have:=spN_le m
 unfold spK spE
 split <;> omega
def RetSK (w : World) (k m e er : Int) (en : Ending) (w' : World) : Prop:=∃ v, en = .returned (.tuple #[.int .i64 k, v, .int .i64 er]) ∧ IsD w' v m e ∧ Below w.heap.size w w'


theorem q_small {P u d : Int} (hd : 0 < d) (h1 : 9 * u ≤ 2 * d) (h2 : -(2 * d) ≤ 9 * u) (hP : 0 < P) : -(2 * P) - 9 ≤ 9 * (u * P / d) ∧ 9 * (u * P / d) ≤ 2 * P:=by
 have e1 : u * P / d * d ≤ u * P:=Int.ediv_mul_le _ (Int.ne_of_gt hd)
 have e2 : u * P < (u * P / d + 1) * d:=Int.lt_ediv_add_one_mul_self _ hd
 have e3 : 9 * u * P ≤ 2 * d * P:=Int.mul_le_mul_of_nonneg_right h1 (Int.le_of_lt hP)
 have e4 : -(2 * d) * P ≤ 9 * u * P:=Int.mul_le_mul_of_nonneg_right h2 (Int.le_of_lt hP)
 have s1 : 9 * u * P = 9 * (u * P):=Int.mul_assoc _ _ _
 have s2 : 2 * d * P = 2 * (d * P):=Int.mul_assoc _ _ _
 have s3 : -(2 * d) * P = -(2 * (d * P)):=by rw [Int.neg_mul, Int.mul_assoc]
 have s5 : d * P = P * d:=Int.mul_comm _ _
 generalize u * P / d = q at *
 have s6 : (q + 1) * d = q * d + d:=by rw [Int.add_mul, Int.one_mul]
 have t1 : 9 * q * d = 9 * (q * d):=Int.mul_assoc _ _ _
 have t2 : 2 * P * d = 2 * (P * d):=Int.mul_assoc _ _ _
 have t3 : (-(2 * P) - 9) * d = -(2 * (P * d)) - 9 * d:=by rw [Int.sub_mul, Int.neg_mul, Int.mul_assoc]
 constructor
 ·exact Int.le_of_mul_le_mul_right (show (-(2 * P) - 9) * d ≤ 9 * q * d by omega) hd
 ·exact Int.le_of_mul_le_mul_right (show 9 * q * d ≤ 2 * P * d by omega) hd
theorem c_small {P u d : Int} (hd : 0 < d) (h1 : 9 * u ≤ 2 * d) (h2 : -(2 * d) ≤ 9 * u) (hP : 0 < P) : -(2 * P) ≤ 9 * cdv (u * P) d ∧ 9 * cdv (u * P) d ≤ 2 * P + 9:=by
 have h:=q_small (P:=P) (u := -u) hd (by omega) (by omega) hP
 unfold cdv
 rw [show -(u * P) = -u * P from (Int.neg_mul _ _).symm]
 omega
theorem arg_wide {P c d : Int} (hP : 64 ≤ P) (h1 : 3 * P - 4 ≤ 4 * c) (h2 : 2 * d ≤ 3 * P + 2) (h3 : c ≤ d) (h4 : d ≤ c + 1) :
  WiI ((2 * P + 9) / 9) (mn4 ((c - P) * P / (c + P)) (cdv ((d - P) * P) (c + P)) ((c - P) * P / (d + P)) (cdv ((d - P) * P) (d + P))) (mx4 ((c - P) * P / (c + P)) (cdv ((d - P) * P) (c + P)) ((c - P) * P / (d + P)) (cdv ((d - P) * P) (d + P))):=by
 have k1:=q_small (P:=P) (u:=c - P) (d:=c + P) (by omega) (by omega) (by omega) (by omega)
 have k2:=c_small (P:=P) (u:=d - P) (d:=c + P) (by omega) (by omega) (by omega) (by omega)
 have k3:=q_small (P:=P) (u:=c - P) (d:=d + P) (by omega) (by omega) (by omega) (by omega)
 have k4:=c_small (P:=P) (u:=d - P) (d:=d + P) (by omega) (by omega) (by omega) (by omega)
 generalize (c - P) * P / (c + P) = x1 at *
 generalize cdv ((d - P) * P) (c + P) = x2 at *
 generalize (c - P) * P / (d + P) = x3 at *
 generalize cdv ((d - P) * P) (d + P) = x4 at *
 unfold WiI mn4 mx4
 omega
theorem ms_wide2 {v : Nat} {a b c d M D K : Int} (h : WiI M a b) (k : WiI D c d) (e : M * D ≤ K * 2 ^ v) : WiI K (msL v a b c d) (msH v a b c d):=by
 have p:=pow2_pos v
 obtain ⟨ha, hb⟩:=h
 obtain ⟨hc, hd⟩:=k
 have q1:=mul_wide ha hc
 have q2:=mul_wide ha hd
 have q3:=mul_wide hb hc
 have q4:=mul_wide hb hd
 have hn : -(K * 2 ^ v) ≤ mn4 (a * c) (a * d) (b * c) (b * d) ∧ mn4 (a * c) (a * d) (b * c) (b * d) ≤ K * 2 ^ v:=by unfold mn4; omega
 have hx : -(K * 2 ^ v) ≤ mx4 (a * c) (a * d) (b * c) (b * d) ∧ mx4 (a * c) (a * d) (b * c) (b * d) ≤ K * 2 ^ v:=by unfold mx4; omega
 unfold msL msH
 generalize mn4 (a * c) (a * d) (b * c) (b * d) = x at *
 generalize mx4 (a * c) (a * d) (b * c) (b * d) = y at *
 generalize (2 : Int) ^ v = P at *
 have eK : -K * P = -(K * P):=Int.neg_mul _ _
 have eK1 : (K + 1) * P = K * P + P:=by rw [Int.add_mul, Int.one_mul]
 refine ⟨⟨(Int.le_ediv_iff_mul_le p).2 (by omega), ?_⟩, ?_, (cdv_le p).2 hx.2⟩
 ·have:=(Int.ediv_lt_iff_lt_mul p).2 (show x < (K + 1) * P by omega)
  omega
 ·refine Int.not_lt.1 fun hlt => ?_
  have h1:=(cdv_le (x:=y) (n:=P) p).1 (Int.le_refl _)
  have h2 : cdv y P * P ≤ (-K - 1) * P:=Int.mul_le_mul_of_nonneg_right (by omega) (Int.le_of_lt p)
  have h3 : (-K - 1) * P = -(K * P) - P:=by rw [Int.sub_mul, Int.neg_mul, Int.one_mul]
  omega
theorem sq_wide {v : Nat} {a b : Int} (hv : 9 ≤ v) (h : WiI ((2 * 2 ^ v + 9) / 9) a b) : WiI (2 ^ v / 16) (msL v a b a b) (msH v a b a b):=by
 obtain ⟨j, rfl⟩ : ∃ j, v = j + 9:=⟨v - 9, by omega⟩
 have hp : (2 : Int) ^ (j + 9) = 512 * 2 ^ j:=by rw [Int.pow_add, Int.mul_comm]; rfl
 have h0:=pow2_pos j
 refine ms_wide2 h h ?_
 rw [hp]
 generalize (2 : Int) ^ j = Q at *
 have e1 : 512 * Q / 16 = 32 * Q:=by omega
 rw [e1]
 have e2 : (2 * (512 * Q) + 9) / 9 ≤ 115 * Q:=by omega
 have e3 : 0 ≤ (2 * (512 * Q) + 9) / 9:=by omega
 have e4:=Int.mul_le_mul e2 e2 e3 (by omega : (0 : Int) ≤ 115 * Q)
 have s1 : 115 * Q * (115 * Q) = 13225 * (Q * Q):=by rw [Int.mul_assoc, ← Int.mul_assoc Q, Int.mul_comm Q 115, Int.mul_assoc 115, ← Int.mul_assoc 115 115, show (115 : Int) * 115 = 13225 from rfl]
 have s2 : 32 * Q * (512 * Q) = 16384 * (Q * Q):=by rw [Int.mul_assoc, ← Int.mul_assoc Q, Int.mul_comm Q 512, Int.mul_assoc 512, ← Int.mul_assoc 32 512, show (32 : Int) * 512 = 16384 from rfl]
 have hq : 0 ≤ Q * Q:=Int.mul_nonneg (Int.le_of_lt h0) (Int.le_of_lt h0)
 omega
structure RfJ (v n f : Nat) (z : Rat) (a b p q : Int) : Prop where
 nf : n + f = v
 ln : ∃ M, LnI v n z a b p q M ∧ M ≤ 2 ^ f
 p1 : -((n : Int) * 2 ^ v) ≤ p ∧ p ≤ (n : Int) * 2 ^ v
 q1 : -((n : Int) * 2 ^ v) ≤ q ∧ q ≤ (n : Int) * 2 ^ v
theorem RfJ.first {v : Nat} {z : Rat} {a b : Int} (hv : 9 ≤ v) (h : SpC a b v z) (w : WiI ((2 * 2 ^ v + 9) / 9) a b) : RfJ v 0 v z a b 0 0:=by
 have hp:=pow2_pos v
 have l:=LnI.first (M:=(2 * 2 ^ v + 9) / 9) h w (by omega)
 rw [Int.zero_mul] at l
 have h9 : (512 : Int) ≤ 2 ^ v:=by
  have : (2 : Nat) ^ 9 ≤ 2 ^ v:=Nat.pow_le_pow_right (by omega) hv
  exact_mod_cast this
 exact ⟨by omega, ⟨_, l, by omega⟩, by omega, by omega⟩
theorem RfJ.wi {v n f : Nat} {z : Rat} {a b p q : Int} (h : RfJ v n f z a b p q) : WiI (2 ^ f) a b:=by
 obtain ⟨M, l, hM⟩:=h.ln
 have:=l.wi
 unfold WiI at *
 omega
theorem RfJ.step {v n f : Nat} {z : Rat} {a b p q c d : Int} (h : RfJ v n f z a b p q) (hs : SpC c d v (z * z)) (wd : WiI (2 ^ v / 16) c d) (ht : tnB a b = false) :
  ∃ g, f = g + 1 ∧ RfJ v (n + 1) g z (msL v a b c d) (msH v a b c d) (p + a / (2 * (n : Int) + 1)) (q + cdv b (2 * (n : Int) + 1)):=by
 obtain ⟨M, l, hM⟩:=h.ln
 have hw:=l.wi
 have hf : 2 ≤ M:=by
  unfold tnB at ht
  refine Int.not_lt.1 fun hlt => ?_
  have h1 : a.natAbs ≤ 1:=by unfold WiI at hw; omega
  have h2 : b.natAbs ≤ 1:=by unfold WiI at hw; omega
  rw [decide_eq_true h1, decide_eq_true h2] at ht
  cases ht
 obtain ⟨g, rfl⟩ : ∃ g, f = g + 1:=by
  cases f with
  | zero => rw [Int.pow_zero] at hM; omega
  | succ g => exact ⟨g, rfl⟩
 have e2 : (2 : Int) ^ (g + 1) = 2 * 2 ^ g:=by rw [Int.pow_succ, Int.mul_comm]
 have hg:=pow2_pos g
 have hv:=pow2_pos v
 have s:=l.step (K:=(M + 15) / 16) hs wd (by omega) (by omega) (by omega)
 have hMv : (2 : Int) ^ (g + 1) ≤ 2 ^ v:=by
  have : (2 : Nat) ^ (g + 1) ≤ 2 ^ v:=Nat.pow_le_pow_right (by omega) (by have:=h.nf; omega)
  exact_mod_cast this
 have a1 : (a / (2 * (n : Int) + 1)).natAbs ≤ a.natAbs:=Int.natAbs_ediv_le_natAbs _ _
 have a2 : (-b / (2 * (n : Int) + 1)).natAbs ≤ (-b).natAbs:=Int.natAbs_ediv_le_natAbs _ _
 have e3 : ((n + 1 : Nat) : Int) * 2 ^ v = (n : Int) * 2 ^ v + 2 ^ v:=by push_cast; rw [Int.add_mul, Int.one_mul]
 have hp:=h.p1
 have hq:=h.q1
 unfold WiI at hw
 refine ⟨g, rfl, by have:=h.nf; omega, ⟨_, s, by omega⟩, ?_, ?_⟩
 ·rw [e3]
  generalize a / (2 * (n : Int) + 1) = x at *
  omega
 ·rw [e3]
  unfold cdv
  generalize -b / (2 * (n : Int) + 1) = x at *
  omega
theorem RfJ.sizes {v n f : Nat} {z : Rat} {a b p q : Int} (h : RfJ v n f z a b p q) : AbP a v ∧ AbP b v ∧ AbP p (2 * v) ∧ AbP q (2 * v):=by
 have w:=h.wi
 have hf : (2 : Int) ^ f ≤ 2 ^ v:=by
  have : (2 : Nat) ^ f ≤ 2 ^ v:=Nat.pow_le_pow_right (by omega) (by have:=h.nf; omega)
  exact_mod_cast this
 have hn : (n : Int) * 2 ^ v ≤ 2 ^ (2 * v):=by
  have h1 : n < 2 ^ v:=Nat.lt_of_le_of_lt (show n ≤ v by have:=h.nf; omega) (Nat.lt_two_pow_self)
  have h2 : n * 2 ^ v ≤ 2 ^ v * 2 ^ v:=Nat.mul_le_mul_right _ (Nat.le_of_lt h1)
  rw [← Nat.pow_add, ← Nat.two_mul] at h2
  exact_mod_cast h2
 have e1 : ((2 ^ v : Nat) : Int) = 2 ^ v:=by push_cast; rfl
 have e2 : ((2 ^ (2 * v) : Nat) : Int) = 2 ^ (2 * v):=by push_cast; rfl
 have hp:=h.p1
 have hq:=h.q1
 unfold AbP
 unfold WiI at w
 refine ⟨?_, ?_, ?_, ?_⟩ <;> omega
theorem RfJ.last {v n f : Nat} {z : Rat} {a b p q : Int} (h : RfJ v n f z a b p q) (ht : tnB a b = true) (hz0 : -(1 / 2) ≤ z) (hz1 : z ≤ 1 / 2) :
  UpE (dq ((p - 3) * 2) (-(v : Int))) ((1 + z) / (1 - z)) ∧ LoE ((1 + z) / (1 - z)) (dq ((q + 3) * 2) (-(v : Int))):=by
 obtain ⟨M, l, hM⟩:=h.ln
 refine l.last ?_ hz0 hz1
 unfold tnB at ht
 rw [Bool.and_eq_true, decide_eq_true_eq, decide_eq_true_eq] at ht
 unfold WiI
 omega
def pt1 (c : Int) (p : Nat → Int × Int) (v : Nat) : Option Int:=match smP p 600 0 (2 ^ v) 0 with
 | none => none
 | some a => some (a * c)
def add2 : Option Int → Option Int → Option Int
 | some a, some b => some (a + b)
 | _, _ => none
def lnT (v : Nat) : Option Int:=add2 (add2 (pt1 18 (tnP 26 (-1)) v) (pt1 (-2) (tnP 4801 (-1)) v)) (pt1 8 (tnP 8749 (-1)) v)
def cLn : Int:=2268941470734616186861435708167256132234041358636494052997072697895108538484637608683501933121951412824912851708240389810467206005511724841255000151707
theorem own_lit0 (w : World) : Own (w.alloc (.cells #[] 148)) w.heap.size (.slice (some ⟨w.heap.size, 0, none⟩) 0 0) []:=
 ⟨World.ownsRow_lit w #[] 0 (Nat.le_refl _) (by unfold maxLen; omega) rfl, small_nil⟩
def RetNn (w : World) (x : Nat) (en : Ending) (w' : World) : Prop:=∃ v, en = .returned v ∧ IsN w' v x ∧ Below w.heap.size w w'
theorem clone_any (x : Nat) (vx : Value) (w : World) (hx : IsN w vx x) (hl : len x ≤ 1000000) :
    Calls Tryz.prog 245 #[vx] w (RetNn w x):=by
  obtain ⟨A, n, c, rfl, hs⟩:=hx
  have qT : ∀ (w : World) (a : Option Addr) (n c n' c' : Nat), (binOp .eql 22 (.slice a n c) (.slice none n' c')).run Tryz.prog w = .ok (.bool a.isNone) w:=fun w a n c n' c' => Lib.run_eql_slice_nil w _ _ a n c n' c' Tryz.underlying22
  have hn : len x = n:=by rw [← length_dig]; exact hs.len
  cases A with
  | none =>
    have hx0 : x = 0:=by
      rcases Nat.eq_zero_or_pos n with h0 | h0
      · rw [h0] at hn
        rcases Nat.eq_zero_or_pos x with h1 | h1
        · exact h1
        · have:=len_pos h1
          omega
      · obtain ⟨_, _, e, _⟩:=hs.place h0
        cases e
    subst hx0
    clear hs hn hl
    go_enter Tryz.func245, Tryz.ntmps245
    go_wp2_with fail
    go_ret
    exact ⟨_, rfl, IsN.zero _, Below.refl _ _⟩
  | some a =>
    have hsl : n ≤ 1000000:=by omega
    have HS:=Hd9 hs
    clear hs hn hl
    go_enter Tryz.func245, Tryz.ntmps245
    go_wp2_with (at_builtin; refine wp_appS _ rfl _ _ rfl w.heap.size _ [] rfl (own_lit0 w) (some a) n c (dig x) rfl (HS.out.mono ((Below.refl _ w).alloc (Nat.le_refl _) _)) (by simp; omega) (by simp) ?_)
    intro v2 w2 h2 g2
    have b2:=((Below.refl w.heap.size w).alloc (Nat.le_refl _) (.cells #[] 148)).grown g2 (by simp) (fun k hk => (own_lit0 w).blockGe k hk)
    have h2' : Own w2 w.heap.size v2 (dig x):=h2
    obtain ⟨A2, c2, e2, hs2, _⟩:=h2'.form
    clear h2 g2 h2'
    go_wp2_with fail
    go_ret
    exact ⟨v2, rfl, ⟨A2, _, c2, e2, hs2⟩, b2⟩

theorem icopied_any (m e : Int) (vx : Value) (w : World) (hx : IsD w vx m e) (lm : zl m ≤ 1000) :
  Calls Tryz.prog 234 #[vx] w (RetD8 w m e):=by
 obtain ⟨A, c, rfl, _, hn1⟩:=hx.form
 have L0:=(Lq.mk0 w).n hn1
 have HC:=Hd9 (fun v W h => clone_any m.natAbs v W h (show len m.natAbs ≤ 1000000 from Nat.le_trans lm (by omega)))
 clear hx hn1 lm
 go_enter Tryz.func234, Tryz.ntmps234
 go_wp2_with fail
 have L:=((L0.varD (w.heap.size) (by simp) (ng m) A (zl m) c e).varD (w.heap.size + 1) (by simp) false none 0 0 0)
 obtain ⟨c00,c01,c02⟩:=L.b0.a3
 obtain ⟨f00,f01,f02⟩:=L.b0.f3
 obtain ⟨c10,c11,c12⟩:=L.tl.b0.a3
 obtain ⟨f10,f11,f12⟩:=L.tl.b0.f3
 (try go_wp2_with fail)
 refine (HC.out _ _ (L.getN (v:=.slice A (zl m) c) (x:=(m).natAbs) (by simp))).mono ?_
 rintro e w1 ⟨v9, rfl, in9, be⟩
 clear c00 f00 c01 f01 c02 f02 c10 f10 c11 f11 c12 f12
 obtain ⟨A9, c9, e9⟩:=in9.form
 replace e9 : v9 = .slice A9 (zl m) c9:=e9
 subst e9
 replace L:=(L.step be).n in9
 clear be in9
 replace L:=L.swap
 obtain ⟨c00,c01,c02⟩:=L.b0.a3
 obtain ⟨f00,f01,f02⟩:=L.b0.f3
 obtain ⟨c10,c11,c12⟩:=L.tl.b0.a3
 obtain ⟨f10,f11,f12⟩:=L.tl.b0.f3
 have LS : Lq _ _ _ _ _ ((w.heap.size, 26, #[.bool (ng m), .slice A9 (zl m) c9, .int .i64 e]) :: _):=L.set (by omega) (by first | (simp; done) | (simp; omega)) 1 (.slice A9 (zl m) c9) (by intro x e; cases e)
 obtain ⟨s00,s01,s02⟩:=LS.b0.a3
 obtain ⟨r00,r01,r02⟩:=LS.tl.b0.f3
 (try go_wp2_with fail)
 clear s00 s01 s02 r00 r01 r02
 replace L:=LS.swap
 clear LS
 have LP:=L.putD (by omega) (by first | (simp; done) | (simp; omega)) (ng m) A9 (zl m) c9 (e)
 obtain ⟨k0,k1,k2⟩:=LP.b0.a3
 unfold put3 at k0 k1 k2
 exact bodyPost_ret (v:=.agg #[.bool (ng m), .slice A9 (zl m) c9, .int .i64 (e)]) (by simp [results, Tryz.results234, go_sem, k0, k1, k2]) rfl ⟨_, rfl, isD_n (LP.getN (by simp)), LP.below⟩
theorem ibetween_any (m e n f : Int) (vx vy : Value) (w : World) (hx : IsD w vx m e) (hy : IsD w vy n f) (lm : zl m ≤ 1000) (ln : zl n ≤ 1000) (he : -70000 ≤ e ∧ e ≤ 70000) (hf : -70000 ≤ f ∧ f ≤ 70000) :
  Calls Tryz.prog 220 #[vx, vy] w (RetI6 w m e n f):=by
 obtain ⟨A, c, rfl, _, hn1⟩:=hx.form
 obtain ⟨B, d, rfl, _, hn2⟩:=hy.form
 have L0:=((Lq.mk0 w).n hn2).n hn1
 have H1:=Hd9 (fun v W h => icopied_any m e v W h lm)
 have H2:=Hd9 (fun v W h => icopied_any n f v W h ln)
 clear hx hy hn1 hn2 lm ln he hf
 go_enter Tryz.func220, Tryz.ntmps220
 go_wp2_with fail
 have L:=(((L0.varD (w.heap.size) (by simp) (ng m) A (zl m) c e).varD (w.heap.size + 1) (by simp) (ng n) B (zl n) d f).varI (w.heap.size + 2) (by simp) false none 0 0 0 false none 0 0 0)
 replace L:=L.drew
 obtain ⟨c00,c01,c02,c03,c04,c05⟩:=L.b0.a6
 obtain ⟨f00,f01,f02,f03,f04,f05⟩:=L.b0.f6
 obtain ⟨c10,c11,c12⟩:=L.tl.b0.a3
 obtain ⟨c20,c21,c22⟩:=L.tl.tl.b0.a3
 go_region_held3 (fun w' => w'.cell? ⟨w.heap.size, 0, none⟩ = some (.bool (ng m)) ∧ w'.cell? ⟨w.heap.size, 1, none⟩ = some (.slice A (zl m) c) ∧ w'.cell? ⟨w.heap.size, 2, none⟩ = some (.int .i64 e) ∧ w'.cell? ⟨w.heap.size + 1, 0, none⟩ = some (.bool (ng n)) ∧ w'.cell? ⟨w.heap.size + 1, 1, none⟩ = some (.slice B (zl n) d) ∧ w'.cell? ⟨w.heap.size + 1, 2, none⟩ = some (.int .i64 f)) (first | (with_reducible exact ⟨L.tl.tl.b0.c30, L.tl.tl.b0.c31, L.tl.tl.b0.c32, L.tl.b0.c30, L.tl.b0.c31, L.tl.b0.c32⟩) | (have LP:=L.putI (by omega) (by first | (simp; done) | (simp; omega)) (ng m) A8 (zl m) c8 (e) (ng n) A9 (zl n) c9 (f); unfold put6 at LP; with_reducible exact ⟨LP.tl.tl.b0.c30, LP.tl.tl.b0.c31, LP.tl.tl.b0.c32, LP.tl.b0.c30, LP.tl.b0.c31, LP.tl.b0.c32⟩) | exact ⟨L.tl.tl.b0.c30, L.tl.tl.b0.c31, L.tl.tl.b0.c32, L.tl.b0.c30, L.tl.b0.c31, L.tl.b0.c32⟩) (first | (go_at_call 234; (with_reducible refine (H1.out _ _ ?_ ).mono ?_); (· (refine isD_n (L.getN ?_); (repeat (first | (with_reducible exact mS) | apply mT)))); rintro e wh ⟨vh, rfl, id, be⟩; obtain ⟨A8, c8, rfl, _, in9⟩:=id.form; replace L:=(L.step be).n in9; clear be id in9; (try (obtain ⟨x00,x01,x02,x03,x04,x05⟩:=L.b0.a6; obtain ⟨y00,y01,y02,y03,y04,y05⟩:=L.b0.f6))) | (go_at_call 234; (with_reducible refine (H2.out _ _ ?_ ).mono ?_); (· (refine isD_n (L.getN ?_); (repeat (first | (with_reducible exact mS) | apply mT)))); rintro e wh ⟨vh, rfl, id, be⟩; obtain ⟨A9, c9, rfl, _, in9⟩:=id.form; replace L:=(L.step be).n in9; clear be id in9; (try (obtain ⟨x00,x01,x02,x03,x04,x05⟩:=L.b0.a6; obtain ⟨y00,y01,y02,y03,y04,y05⟩:=L.b0.f6))))
 clear c00 f00 c01 f01 c02 f02 c03 f03 c04 f04 c05 f05 c10 c11 c12 c20 c21 c22
 go_wp2_with fail
 have LP:=L.putI (by omega) (by first | (simp; done) | (simp; omega)) (ng m) A8 (zl m) c8 e (ng n) A9 (zl n) c9 f
 obtain ⟨k0,k1,k2,k3,k4,k5⟩:=LP.b0.a6
 unfold put6 at k0 k1 k2 k3 k4 k5
 exact bodyPost_ret (v:=.agg #[.bool (ng m), .slice A8 (zl m) c8, .int .i64 e, .bool (ng n), .slice A9 (zl n) c9, .int .i64 f]) (by simp [results, Tryz.results220, go_sem, k0, k1, k2, k3, k4, k5]) rfl ⟨_, rfl, isI_n (LP.getN (by simp)) (LP.getN (by simp)), LP.below⟩
theorem i10point_any (m e : Int) (vx : Value) (w : World) (hx : IsD w vx m e) (lm : zl m ≤ 1000) (he : -20000 ≤ e ∧ e ≤ 20000) (_hv : Dv m e) :
  Calls Tryz.prog 182 #[vx] w (RetI6 w m e m e):=by
 obtain ⟨A, c, rfl, _, hn1⟩:=hx.form
 have L0:=(Lq.mk0 w).n hn1
 have H1:=Hd9 (fun v u W k1 k2 => ibetween_any m e m e v u W k1 k2 lm lm (by omega) (by omega))
 clear hx hn1 lm he
 go_enter Tryz.func182, Tryz.ntmps182
 go_wp2_with fail
 have L:=((L0.varD (w.heap.size) (by simp) (ng m) A (zl m) c e).varI (w.heap.size + 1) (by simp) false none 0 0 0 false none 0 0 0)
 obtain ⟨c00,c01,c02,c03,c04,c05⟩:=L.b0.a6
 obtain ⟨f00,f01,f02,f03,f04,f05⟩:=L.b0.f6
 obtain ⟨c10,c11,c12⟩:=L.tl.b0.a3
 (try go_wp2_with fail)
 refine (H1.out _ _ _ (isD_n (m:=m) (e:=e) (s:=.slice A (zl m) c) (L.getN (v:=.slice A (zl m) c) (x:=(m).natAbs) (by simp))) (isD_n (m:=m) (e:=e) (s:=.slice A (zl m) c) (L.getN (v:=.slice A (zl m) c) (x:=(m).natAbs) (by simp)))).mono ?_
 rintro e w1 ⟨v8, rfl, ii, be⟩
 clear c00 f00 c01 f01 c02 f02 c03 f03 c04 f04 c05 f05 c10 c11 c12
 obtain ⟨A8, c8, B8, d8, rfl, ia, ib⟩:=ii.form
 replace L:=((L.step be).n ib).n ia
 clear be ii ia ib
 obtain ⟨c00,c01,c02,c03,c04,c05⟩:=L.b0.a6
 obtain ⟨f00,f01,f02,f03,f04,f05⟩:=L.b0.f6
 (try go_wp2_with fail)
 have LP:=L.putI (by omega) (by first | (simp; done) | (simp; omega)) (ng m) A8 (zl m) c8 e (ng m) B8 (zl m) d8 e
 obtain ⟨k0,k1,k2,k3,k4,k5⟩:=LP.b0.a6
 unfold put6 at k0 k1 k2 k3 k4 k5
 exact bodyPost_ret (v:=.agg #[.bool (ng m), .slice A8 (zl m) c8, .int .i64 e, .bool (ng m), .slice B8 (zl m) d8, .int .i64 e]) (by simp [results, Tryz.results182, go_sem, k0, k1, k2, k3, k4, k5]) rfl ⟨_, rfl, isI_n (LP.getN (by simp)) (LP.getN (by simp)), LP.below⟩
theorem dshift_any (m e k : Int) (vx : Value) (w : World) (hx : IsD w vx m e) (lm : zl m ≤ 20000) (he : -1000000 ≤ e ∧ e ≤ 1000000) (hk : -65536 ≤ k ∧ k ≤ 65536) (hT : Tab w) :
  Calls Tryz.prog 110 #[vx, .int .i64 k] w (RetDE w (mkM m (e + k)) (mkE m (e + k)) (mkR m (e + k))):=by
 obtain ⟨A, c, rfl, hz, hn⟩:=hx.form
 have L0:=(Lq.mk0 w).z hz
 obtain ⟨s, hs⟩:=nm9 (e + k)
 have hw : IntKind.i64.wrap (e + k) = s:=by rw [← hs, IntKind.wrap_i64]; omega
 have hw0:=fun W => within_any k 65536 W (by omega) (by omega)
 have hin : (decide (-65536 ≤ k) && decide (k ≤ 65536)) = true:=by rw [decide_eq_true hk.1, decide_eq_true hk.2]; rfl
 rw [hin] at hw0
 have HW:=Hd9 hw0
 have HM0:=fun v W h (hW : Below w.heap.size w W) => dmake_any m s v W h (by omega) (hT.mono hW)
 rw [hs]
 generalize mkM m s = M at *
 generalize mkE m s = E at *
 generalize mkR m s = R at *
 have HM:=Hd9 HM0
 clear HM0 hw0 hin hs hx hz hn lm he hk hT
 go_enter Tryz.func110, Tryz.ntmps110
 go_wp2_with fail
 have L:=((L0.varD (w.heap.size) (by simp) (ng m) A (zl m) c e).varD (w.heap.size + 1) (by simp) false none 0 0 0)
 obtain ⟨c00,c01,c02⟩:=L.b0.a3
 obtain ⟨f00,f01,f02⟩:=L.b0.f3
 obtain ⟨c10,c11,c12⟩:=L.tl.b0.a3
 obtain ⟨f10,f11,f12⟩:=L.tl.b0.f3
 (try go_wp2_with fail)
 refine (HW.out _).mono ?_
 rintro e9 w' ⟨rfl, rfl⟩
 (try go_wp2_with fail)
 refine (HM.out _ _ (L.getZ (v:=.agg #[.bool (ng m), .slice A (zl m) c]) (by simp)) L.below).mono ?_
 rintro e w1 ⟨v8, rfl, id, be⟩
 clear c00 f00 c01 f01 c02 f02 c10 f10 c11 f11 c12 f12
 obtain ⟨A9, c9, rfl, _, in9⟩:=id.form
 replace L:=(L.step be).n in9
 clear be in9 id
 obtain ⟨c00,c01,c02⟩:=L.b0.a3
 obtain ⟨f00,f01,f02⟩:=L.b0.f3
 obtain ⟨c10,c11,c12⟩:=L.tl.b0.a3
 (try go_wp2_with fail)
 have LP:=L.putD (by omega) (by first | (simp; done) | (simp; omega)) (ng M) A9 (zl M) c9 (E)
 obtain ⟨k0,k1,k2⟩:=LP.b0.a3
 unfold put3 at k0 k1 k2
 exact bodyPost_ret (v:=.tuple #[.agg #[.bool (ng M), .slice A9 (zl M) c9, .int .i64 (E)], .int .i64 R]) (by simp [results, Tryz.results110, go_sem, k0, k1, k2]) rfl ⟨_, rfl, isD_n LP.hn, LP.below⟩
theorem cfrac_any (num den : Int) (w : World) (h1 : -4611686018427387904 ≤ num) (h2 : num ≤ 4611686018427387904) (hd : 0 < den) (hd2 : den ≤ 4611686018427387904) :
  Calls Tryz.prog 201 #[.int .i64 num, .int .i64 den] w (RetQ w (Rat.divInt num den)):=by
 have z1:=len_le2 (x:=num.natAbs) (by omega)
 have z2:=len_le2 (x:=den.natAbs) (by omega)
 have z3:=len_le2 (x:=1) (by omega)
 have g1:=fun W => pof_any num W (by omega) (by omega)
 have g2:=fun W => pof_any den W (by omega) (by omega)
 have g3:=fun v u W h k => pdiv_any num 1 den 1 v u W h k (show zl num ≤ 1000000 from Nat.le_trans z1 (by omega)) (by omega) (show zl den ≤ 1000000 from Nat.le_trans z2 (by omega)) (by omega) (by omega) (by omega)
 rw [show Rat.divInt (num * ((1 : Nat) : Int)) (((1 : Nat) : Int) * den) = Rat.divInt num den by rw [Int.natCast_one, Int.mul_one, Int.one_mul]] at g3
 unfold RetQ at g1 g2 ⊢
 simp only [Rat.num_intCast, Rat.den_intCast] at g1 g2
 generalize (Rat.divInt num den).num = a at *
 generalize (Rat.divInt num den).den = k at *
 have G1:=Hd9 g1
 have G2:=Hd9 g2
 have G3:=Hd9 g3
 clear g1 g2 g3 z1 z2 z3
 go_enter Tryz.func201, Tryz.ntmps201
 have L:=((Lq.mk0 w).varQ (w.heap.size) (by simp) false none none 0 0 0 0)
 obtain ⟨c00,c01,c02⟩:=L.b0.a3
 obtain ⟨f00,f01,f02⟩:=L.b0.f3
 (try go_wp2_with fail)
 refine (G1.out _).mono ?_
 rintro e w1 ⟨vv, rfl, iq, be⟩
 clear c00 f00 c01 f01 c02 f02
 obtain ⟨A1, c1, B1, d1, rfl, _, ia, ib⟩:=iq.form
 replace L:=((L.step be).n ib).n ia
 clear be iq ia ib
 obtain ⟨c00,c01,c02⟩:=L.b0.a3
 obtain ⟨f00,f01,f02⟩:=L.b0.f3
 (try go_wp2_with fail)
 refine (G2.out _).mono ?_
 rintro e w2 ⟨vv, rfl, iq, be⟩
 clear c00 f00 c01 f01 c02 f02
 obtain ⟨A2, c2, B2, d2, rfl, _, ia, ib⟩:=iq.form
 replace L:=((L.step be).n ib).n ia
 clear be iq ia ib
 obtain ⟨c00,c01,c02⟩:=L.b0.a3
 obtain ⟨f00,f01,f02⟩:=L.b0.f3
 (try go_wp2_with fail)
 refine (G3.out _ _ _ ⟨.slice A1 (zl num) c1, .slice B1 (len 1) d1, rfl, L.getN (by simp), L.getN (by simp)⟩ ⟨.slice A2 (zl den) c2, .slice B2 (len 1) d2, rfl, L.getN (by simp), L.getN (by simp)⟩).mono ?_
 rintro e w3 ⟨vv, rfl, iq, be⟩
 clear c00 f00 c01 f01 c02 f02
 obtain ⟨A3, c3, B3, d3, rfl, _, ia, ib⟩:=iq.form
 replace L:=((L.step be).n ib).n ia
 clear be iq ia ib
 have hl9:=L.b0.lt
 obtain ⟨c00,c01,c02⟩:=L.b0.a3
 obtain ⟨f00,f01,f02⟩:=L.b0.f3
 have LN:=L.varQ w3.heap.size rfl (ng a) A3 B3 (zl a) c3 (len k) d3
 obtain ⟨n0,n1,n2⟩:=LN.b0.a3
 go_wp2_with fail
 clear c00 f00 c01 f01 c02 f02
 have LP0:=L.putQ (by omega) (by simp) (ng a) A3 B3 (zl a) c3 (len k) d3
 have LP:=LP0.varQ _ rfl (ng a) A3 B3 (zl a) c3 (len k) d3
 obtain ⟨k0,k1,k2⟩:=LP.tl.b0.a3
 unfold put3 at k0 k1 k2
 exact bodyPost_ret (v:=.agg #[.bool (ng a), .slice A3 (zl a) c3, .slice B3 (len k) d3]) (by simp [results, Tryz.results201, go_sem, k0, k1, k2]) rfl ⟨_, rfl, ⟨_, _, rfl, LP.getN (by simp), LP.getN (by simp)⟩, LP.below⟩
theorem ctang_any (n sg : Int) (j : Nat) (w : World) (hn : 2 ≤ n) (hn2 : n ≤ 10000) (hs : sg = 1 ∨ sg = -1) (hj : j ≤ 1000) :
  Calls Tryz.prog 151 #[.int .i64 n, .int .i64 (j : Int), .int .i64 sg] w (RetQ w (Rat.divInt (tnP n sg j).1 (tnP n sg j).2)):=by
 have hnn : n * n ≤ 10000 * 10000:=Int.mul_le_mul hn2 hn2 (by omega) (by omega)
 have hnn2 : 2 * 2 ≤ n * n:=Int.mul_le_mul hn hn (by omega) (by omega)
 obtain ⟨q, hq⟩:=nm9 (n * n)
 obtain ⟨b, hb⟩:=nm9 (q + sg)
 have w1 : IntKind.i64.wrap (n * n) = q:=by rw [IntKind.wrap_i64]; omega
 have w2 : IntKind.i64.wrap (q + sg) = b:=by rw [IntKind.wrap_i64]; omega
 have w3 : IntKind.i64.wrap (sg * 2) = sg * 2:=by rw [IntKind.wrap_i64]; omega
 obtain ⟨u, hu⟩:=nm9 (sg * 2 * (j : Int))
 have hub : -2000 ≤ u ∧ u ≤ 2000:=by rcases hs with rfl | rfl <;> omega
 have w4 : IntKind.i64.wrap (sg * 2 * (j : Int)) = u:=by rw [IntKind.wrap_i64]; omega
 have w5 : IntKind.i64.wrap (2 * (j : Int)) = 2 * (j : Int):=by rw [IntKind.wrap_i64]; omega
 obtain ⟨m, hm⟩ : ∃ m : Int, 2 * (j : Int) + 1 = m:=⟨_, rfl⟩
 have w6 : IntKind.i64.wrap (2 * (j : Int) + 1) = m:=by rw [IntKind.wrap_i64]; omega
 rw [hq] at hnn hnn2
 have hmb : m * b ≤ 2001 * 100000001:=Int.mul_le_mul (by omega) (by omega) (by omega) (by omega)
 have hmb2 : 1 * 3 ≤ m * b:=Int.mul_le_mul (by omega) (by omega) (by omega) (by omega)
 obtain ⟨y, hy⟩:=nm9 (m * b)
 rw [hy] at hmb hmb2
 have w7 : IntKind.i64.wrap (m * b) = y:=by rw [IntKind.wrap_i64]; omega
 unfold tnP
 by_cases hj0 : j = 0
 ·subst hj0
  rw [if_pos rfl]
  simp only
  rw [hq, hb]
  have g1:=fun W => cfrac_any n b W (by omega) (by omega) (by omega) (by omega)
  unfold RetQ at g1 ⊢
  generalize (Rat.divInt n b).num = a at *
  generalize (Rat.divInt n b).den = k at *
  have G1:=Hd9 g1
  clear g1 hy hm hu hb hq hnn hnn2 hmb hmb2 w3 w4 w5 w6 w7 hub
  go_enter Tryz.func151, Tryz.ntmps151
  have L:=((Lq.mk0 w).varQ (w.heap.size) (by simp) false none none 0 0 0 0)
  obtain ⟨c00,c01,c02⟩:=L.b0.a3
  obtain ⟨f00,f01,f02⟩:=L.b0.f3
  (try go_wp2_with fail)
  refine (G1.out _).mono ?_
  rintro e w1 ⟨vv, rfl, iq, be⟩
  clear c00 f00 c01 f01 c02 f02
  obtain ⟨A9, c9, B9, d9, rfl, _, ia, ib⟩:=iq.form
  replace L:=((L.step be).n ib).n ia
  clear be iq ia ib
  obtain ⟨c00,c01,c02⟩:=L.b0.a3
  obtain ⟨f00,f01,f02⟩:=L.b0.f3
  (try go_wp2_with fail)
  have LP:=L.putQ (by omega) (by first | (simp; done) | (simp; omega)) (ng (a)) A9 B9 (zl (a)) c9 (len (k)) d9
  obtain ⟨k0,k1,k2⟩:=LP.b0.a3
  unfold put3 at k0 k1 k2
  exact bodyPost_ret (v:=.agg #[.bool (ng (a)), .slice A9 (zl (a)) c9, .slice B9 (len (k)) d9]) (by simp [results, Tryz.results151, go_sem, k0, k1, k2]) rfl ⟨_, rfl, ⟨_, _, rfl, LP.getN (by simp), LP.getN (by simp)⟩, LP.below⟩
 ·rw [if_neg hj0]
  simp only
  rw [hq, hb, hu, hm, hy]
  have q0 : ((j : Int) == 0) = false:=by rw [beq_eq_false_iff_ne]; omega
  have g1:=fun W => cfrac_any u y W (by omega) (by omega) (by omega) (by omega)
  unfold RetQ at g1 ⊢
  generalize (Rat.divInt u y).num = a at *
  generalize (Rat.divInt u y).den = k at *
  have G1:=Hd9 g1
  clear g1 hy hm hu hb hq hnn hnn2 hmb hmb2 hub
  go_enter Tryz.func151, Tryz.ntmps151
  have L:=((Lq.mk0 w).varQ (w.heap.size) (by simp) false none none 0 0 0 0)
  obtain ⟨c00,c01,c02⟩:=L.b0.a3
  obtain ⟨f00,f01,f02⟩:=L.b0.f3
  (try go_wp2_with fail)
  refine (G1.out _).mono ?_
  rintro e w1 ⟨vv, rfl, iq, be⟩
  clear c00 f00 c01 f01 c02 f02
  obtain ⟨A9, c9, B9, d9, rfl, _, ia, ib⟩:=iq.form
  replace L:=((L.step be).n ib).n ia
  clear be iq ia ib
  obtain ⟨c00,c01,c02⟩:=L.b0.a3
  obtain ⟨f00,f01,f02⟩:=L.b0.f3
  (try go_wp2_with fail)
  have LP:=L.putQ (by omega) (by first | (simp; done) | (simp; omega)) (ng (a)) A9 B9 (zl (a)) c9 (len (k)) d9
  obtain ⟨k0,k1,k2⟩:=LP.b0.a3
  unfold put3 at k0 k1 k2
  exact bodyPost_ret (v:=.agg #[.bool (ng (a)), .slice A9 (zl (a)) c9, .slice B9 (len (k)) d9]) (by simp [results, Tryz.results151, go_sem, k0, k1, k2]) rfl ⟨_, rfl, ⟨_, _, rfl, LP.getN (by simp), LP.getN (by simp)⟩, LP.below⟩
theorem carea_any (n : Int) (j : Nat) (w : World) (hn : 2 ≤ n) (hn2 : n ≤ 10000) (hj : j ≤ 1000) :
  Calls Tryz.prog 122 #[.int .i64 n, .int .i64 (j : Int)] w (RetQ w (Rat.divInt (tnP n (-1) j).1 (tnP n (-1) j).2)):=by
 have g1:=fun W => ctang_any n (-1) j W hn hn2 (by omega) hj
 unfold RetQ at g1 ⊢
 generalize (Rat.divInt (tnP n (-1) j).1 (tnP n (-1) j).2).num = a at *
 generalize (Rat.divInt (tnP n (-1) j).1 (tnP n (-1) j).2).den = k at *
 have G1:=Hd9 g1
 clear g1
 go_enter Tryz.func122, Tryz.ntmps122
 have L:=((Lq.mk0 w).varQ (w.heap.size) (by simp) false none none 0 0 0 0)
 obtain ⟨c00,c01,c02⟩:=L.b0.a3
 obtain ⟨f00,f01,f02⟩:=L.b0.f3
 (try go_wp2_with fail)
 refine (G1.out _).mono ?_
 rintro e w1 ⟨vv, rfl, iq, be⟩
 clear c00 f00 c01 f01 c02 f02
 obtain ⟨A9, c9, B9, d9, rfl, _, ia, ib⟩:=iq.form
 replace L:=((L.step be).n ib).n ia
 clear be iq ia ib
 obtain ⟨c00,c01,c02⟩:=L.b0.a3
 obtain ⟨f00,f01,f02⟩:=L.b0.f3
 (try go_wp2_with fail)
 have LP:=L.putQ (by omega) (by first | (simp; done) | (simp; omega)) (ng (a)) A9 B9 (zl (a)) c9 (len (k)) d9
 obtain ⟨k0,k1,k2⟩:=LP.b0.a3
 unfold put3 at k0 k1 k2
 exact bodyPost_ret (v:=.agg #[.bool (ng (a)), .slice A9 (zl (a)) c9, .slice B9 (len (k)) d9]) (by simp [results, Tryz.results122, go_sem, k0, k1, k2]) rfl ⟨_, rfl, ⟨_, _, rfl, LP.getN (by simp), LP.getN (by simp)⟩, LP.below⟩
def okW (p : Int) : Bool:=decide (0 ≤ p) && decide (p ≤ 4224)
theorem cperm_any (p : Int) (w : World) :
  Calls Tryz.prog 149 #[.int .i64 p] w (fun e w' => e = .returned (.bool (okW p)) ∧ w = w'):=by
 unfold okW
 by_cases q1 : 0 ≤ p
 ·have b1 : decide (0 ≤ p) = true:=decide_eq_true q1
  rw [b1, Bool.true_and]
  go_enter Tryz.func149, Tryz.ntmps149
  go_wp2_with fail
  go_ret
  exact ⟨rfl, rfl⟩
 ·have b1 : decide (0 ≤ p) = false:=decide_eq_false q1
  rw [b1, Bool.false_and]
  go_enter Tryz.func149, Tryz.ntmps149
  go_wp2_with fail
  go_ret
  exact ⟨rfl, rfl⟩

theorem plainP (a : Int) (F : Nat) (n : Int) : Plain #[.int .i64 a, .func (.func F) #[] #[], .int .i64 n]:=fun j x => by
 match j with
 | 0 => simp
 | 1 => simp
 | 2 => simp
 | j + 3 => simp
theorem Lq.varP {w0 w : World} {ns : List (Value × Nat)} {zs : List (Value × Int)} {qs : List (Value × Int × Nat)} {bs : List (Nat × TypeId × Array Value)} (h : Lq w0 w ns zs qs bs) (g : Nat) (hg : g = w.heap.size) (a : Int) (F : Nat) (n : Int) : Lq w0 (w.alloc (.cells #[.int .i64 a, .func (.func F) #[] #[], .int .i64 n] 100)) ns zs qs ((g, 100, #[.int .i64 a, .func (.func F) #[] #[], .int .i64 n]) :: bs):=h.var g hg _ _ (plainP _ _ _)
theorem Lq.subs {w0 w : World} {ns : List (Value × Nat)} {zs : List (Value × Int)} {qs : List (Value × Int × Nat)} {bs : List (Nat × TypeId × Array Value)} (h : Lq w0 w ns zs qs bs) {ns' : List (Value × Nat)} {bs' : List (Nat × TypeId × Array Value)} (h1 : ∀ p ∈ ns', p ∈ ns) (h2 : ∀ b ∈ bs', b ∈ bs) : Lq w0 w ns' [] [] bs':=
 ⟨h.below, fun x hx => h.ns x (h1 x hx), fun _ x => (by cases x), fun _ x => (by cases x), fun x hx => h.bs x (h2 x hx)⟩

theorem csum_any (F : Nat) (hen : ∀ args w, (callFunc F args).run Tryz.prog w = .ok (.enter F args) w) (p : Nat → Int × Int) (n fac S : Int) (v : Nat) (w : World) (hg : GdP p) (hS : smP p 600 0 (2 ^ v) 0 = some S) (hfac : AbP fac 10) (hv : v ≤ 4200) (hT : Tab w) (hf : ∀ (j : Nat) W, j ≤ 1000 → Calls Tryz.prog F #[.int .i64 n, .int .i64 (j : Int)] W (RetQ W (Rat.divInt (p j).1 (p j).2))) :
  Calls Tryz.prog 150 #[.agg #[.int .i64 fac, .func (.func F) #[] #[], .int .i64 n], .int .i64 (v : Int)] w (RetD8 w (mkM (S * fac) 0) (mkE (S * fac) 0)):=by
 have hfb : -1024 ≤ fac ∧ fac ≤ 1024:=by
  have e10 : (2 : Nat) ^ 10 = 1024:=by decide
  unfold AbP at hfac
  rw [e10] at hfac
  omega
 have hSb:=smP_abs hg 600 0 _ _ _ (sp_first hS)
 have HR0:=sp_first hS
 have HT:=Hd9 (fun W (hW : Below w.heap.size w W) => hT.mono hW)
 have g1:=fun W (hW : Below w.heap.size w W) => dof_any 1 W (by omega) (by omega) (hT.mono hW)
 obtain ⟨u1, u2, u3⟩:=nf_up (k:=v) (by omega)
 obtain ⟨_, y2, y3, y4, _, _⟩:=nf (t:=1) (v:=0) (by unfold AbP; decide) (by omega)
 have g2:=fun x W h (hW : Below w.heap.size w W) => dshift_any (mkM 1 0) (mkE 1 0) (v : Int) x W h (by omega) (by omega) (by omega) (hT.mono hW)
 rw [u1, u2, u3] at g2
 have g3:=fun W (hW : Below w.heap.size w W) => dof_any fac W (by omega) (by omega) (hT.mono hW)
 obtain ⟨f1, f2, f3, f4, _, _⟩:=nf hfac (by omega)
 obtain ⟨s1, s2, s3, s4, _, _⟩:=nf hSb (by omega)
 obtain ⟨m1, m2, m3⟩:=nf_mul hSb hfac (by omega)
 have g4:=fun x y W h k (hW : Below w.heap.size w W) => dmul_any (mkM S 0) (mkE S 0) (mkM fac 0) (mkE fac 0) x y W h k (by omega) (by omega) (by omega) (by omega) (hT.mono hW)
 rw [m1, m2, m3] at g4
 clear hfb hfac u1 u2 u3 y2 y3 y4 f1 f2 f3 f4 s1 s2 s3 s4 m1 m2 m3 hS hSb
 generalize mkM (S * fac) 0 = Mr at *
 generalize mkE (S * fac) 0 = Er at *
 generalize mkM fac 0 = Mf at *
 generalize mkE fac 0 = Ef at *
 generalize mkM 1 0 = M1 at *
 generalize mkE 1 0 = E1 at *
 generalize hP : (2 : Int) ^ v = P at *
 obtain ⟨M, hM⟩:=nm9 (mkM P 0)
 obtain ⟨E, hE⟩:=nm9 (mkE P 0)
 rw [hM, hE] at g2
 have HR:=Hd9 (And.intro HR0 (And.intro (And.intro hM hE) nf00))
 have G1:=Hd9 g1
 have G2:=Hd9 g2
 have G3:=Hd9 g3
 have G4:=Hd9 g4
 have HF:=Hd9 hf
 have HG:=Hd9 hg
 have HV:=Hd9 hv
 clear g1 g2 g3 g4 hf hg hv HR0 hM hE hP hT
 go_enter Tryz.func150, Tryz.ntmps150
 have L:=((((Lq.mk0 w).varP (w.heap.size) (by simp) fac F n).varD (w.heap.size + 1) (by simp) false none 0 0 0).varD (w.heap.size + 2) (by simp) false none 0 0 0)
 obtain ⟨c00,c01,c02⟩:=L.b0.a3
 obtain ⟨f00,f01,f02⟩:=L.b0.f3
 (try go_wp2_with fail)
 refine (G1.out _ L.below).mono ?_
 rintro e w1 ⟨v1, rfl, id, be⟩
 clear c00 f00 c01 f01 c02 f02
 replace L:=L.step be
 clear be
 (try go_wp2_with fail)
 refine (G2.out _ _ id L.below).mono ?_
 rintro e w2 ⟨v2, rfl, iz, be⟩
 obtain ⟨A1, c1, rfl, _, in9⟩:=iz.form
 replace L:=(L.step be).n in9
 clear be iz in9 id
 have hl9:=L.b0.lt
 replace L:=L.varD w2.heap.size rfl (ng M) A1 (zl M) c1 E
 obtain ⟨c00,c01,c02⟩:=L.b0.a3
 go_wp2_with fail
 clear c00 c01 c02
 obtain ⟨gt, hgt⟩:=nm9 (w2.heap.size)
 rw [hgt] at L hl9 ⊢
 clear hgt
 clear G1 G2
 go_loopw [8] (fun i wr => ∃ (f k : Nat) (t s M E N K : Int) (A1 A2 : Option Addr) (c1 c2 : Nat), i = .int .i64 (k : Int) ∧ Lq w wr [(.slice A1 (zl M) c1, M.natAbs), (.slice A2 (zl N) c2, N.natAbs)] [] [] [(gt, 26, #[.bool (ng M), .slice A1 (zl M) c1, .int .i64 E]), (w.heap.size + 2, 26, #[.bool (ng N), .slice A2 (zl N) c2, .int .i64 K]), (w.heap.size, 100, #[.int .i64 fac, .func (.func F) #[] #[], .int .i64 n]), (w.heap.size + 1, 26, #[.bool false, .slice none 0 0, .int .i64 0])] ∧ Hid (SpI p v f k t s S ∧ (mkM t 0 = M ∧ mkE t 0 = E) ∧ mkM s 0 = N ∧ mkE s 0 = K)) (fun i _ => 700 - (intOf i).toNat)
 case atStart =>
  have zz : zl 0 = 0:=len_zero
  have LN:=L.n (v:=.slice none 0 0) (x:=0) (IsN.zero _)
  refine ⟨600, 0, P, 0, M, E, 0, 0, A1, none, c1, 0, by go_num, ?_, HR⟩
  rw [zz]
  exact LN.subs (by simp) (by simp [ng])
 case round =>
  clear L HR
  obtain ⟨f, k, t, s, M, E, N, K, A1, A2, c1, c2, rfl, L, HR⟩:=hrel
  obtain ⟨hI, ⟨hM, hE⟩, hN, hK⟩:=HR.out
  have hv:=HV.out
  obtain ⟨ht, hs, hfk, _⟩:=id hI
  obtain ⟨_, z2, z3, z4, _, _⟩:=nf ht (by omega)
  obtain ⟨q1, q2⟩:=nf_rat ht (by omega)
  obtain ⟨g, rfl, hk, ht2, n1, n2⟩:=hI.step HG.out
  obtain ⟨r1, r2, r3, r4, _, _⟩:=nf ht2 (by omega)
  have r5:=nf_sign ht2 (by omega)
  obtain ⟨p1, p2, p3⟩:=HG.out k (by omega)
  have zt:=ht.zl
  have hb9:=L.tl.b0.lt
  have hc9:=L.b0.lt
  have o1:=fun x W h => drat_any (mkM t 0) (mkE t 0) x W h (by omega) (by omega)
  rw [q1, q2] at o1
  have o2:=fun W => HF.out k W (by omega)
  unfold RetQ at o2
  have cs:=cut_st p k t p2
  obtain ⟨d, hd⟩ : ∃ d : Nat, (p k).2 = (d : Int):=⟨(p k).2.toNat, by omega⟩
  have ds:=divInt_small (p k).1 d 2 (show zl (p k).1 ≤ 2 from len_le2 (by omega)) (len_le2 (by omega)) (by omega)
  rw [← hd] at ds
  have dp:=den_pos' (Rat.divInt (p k).1 (p k).2)
  generalize (Rat.divInt (p k).1 (p k).2).num = a at *
  generalize (Rat.divInt (p k).1 (p k).2).den = b at *
  have o3:=fun x y W h j => pmul_any t 1 a b x y W h j (by omega) (show len 1 ≤ 1000000 from Nat.le_trans (len_le1 (by omega)) (by omega)) (by omega) (by omega) (by omega) dp
  unfold RetQ at o3
  have sz:=divInt_small (t * a) (1 * b) 600 (by have:=zl_mul t a; omega) (by rw [Nat.one_mul]; omega) (by omega)
  rw [Int.natCast_mul] at sz
  have xp:=den_pos' (Rat.divInt (t * a) (((1 : Nat) : Int) * (b : Int)))
  have xe:=rat_self (Rat.divInt (t * a) (((1 : Nat) : Int) * (b : Int)))
  generalize Rat.divInt (t * a) (((1 : Nat) : Int) * (b : Int)) = X at *
  have o4:=fun x W h (hW : Below w.heap.size w W) => gfloorR_any X.num X.den 0 x W h (by omega) (by omega) xp (by omega) (by omega) (HT.out W hW)
  obtain ⟨e1, e2, e3⟩:=g_yes (p:=0) (by decide) (cutQ (Rat.divInt X.num (X.den : Int)) 0)
  rw [e1, e2, e3, xe, cs, Int.neg_zero, r1] at o4
  have o5:=fun x W h => dsign_any (mkM (stP p k t) 0) (mkE (stP p k t) 0) x W h (by omega)
  have hsu:=ht2.up (show v ≤ v + k by omega)
  obtain ⟨a1, a2, a3⟩:=nf_add hs hsu (by omega)
  obtain ⟨_, b2, b3, b4, _, _⟩:=nf hs (by omega)
  have o6:=fun x y W h j (hW : Below w.heap.size w W) => dadd_any (mkM s 0) (mkE s 0) (mkM (stP p k t) 0) (mkE (stP p k t) 0) x y W h j (by omega) (by omega) (by omega) (by omega) (HT.out W hW)
  rw [a1, a2, a3] at o6
  have w3 : IntKind.i64.wrap ((k : Int) + 1) = (k : Int) + 1:=by rw [IntKind.wrap_i64]; omega
  clear q1 q2 z2 z3 z4 p1 p2 p3 hd ds cs sz xp xe e1 e2 e3 r1 r2 r3 r4 a1 a2 a3 b2 b3 b4 hsu zt dp hI hv ht hs ht2
  obtain ⟨t2, ht2⟩:=nm9 (stP p k t)
  rw [ht2] at n1 n2 r5 o4 o5 o6
  obtain ⟨s2, hs2⟩:=nm9 (s + t2)
  rw [hs2] at n2 o6
  rw [hM, hE] at o1
  rw [hN, hK] at o6
  obtain ⟨M2, hM2⟩:=nm9 (mkM t2 0)
  obtain ⟨E2, hE2⟩:=nm9 (mkE t2 0)
  obtain ⟨N2, hN2⟩:=nm9 (mkM s2 0)
  obtain ⟨K2, hK2⟩:=nm9 (mkE s2 0)
  rw [hM2, hE2] at o4 o5 o6
  rw [hM2] at r5
  rw [hN2, hK2] at o6
  generalize X.num = xa at *
  generalize X.den = xd at *
  obtain ⟨sg9, hsg9⟩:=nm9 (cmpI M2 0)
  rw [hsg9] at o5 r5
  have O1:=Hd9 o1
  have O2:=Hd9 o2
  have O3:=Hd9 o3
  have O4:=Hd9 o4
  have O5:=Hd9 o5
  have O6:=Hd9 o6
  have HQ:=Hd9 (And.intro (And.intro hN hK) (And.intro n1 n2))
  have HM2:=Hd9 (And.intro (And.intro hM2 hE2) (And.intro hN2 hK2))
  clear o1 o2 o3 o4 o5 o6 hsg9 n1 n2 hM hE hN hK hM2 hE2 hN2 hK2 hs2 ht2 HR hfk X
  have nb : w.heap.size + 2 ≠ gt:=by omega
  (try go_wp2_with fail)
  replace L:=L.drew
  obtain ⟨cel00,cel01,cel02⟩:=L.b0.a3
  obtain ⟨f00,f01,f02⟩:=L.b0.f3
  obtain ⟨cel20,cel21,cel22⟩:=L.tl.tl.b0.a3
  go_cut [30] from 18 to 30 (fun s9 wx => ∃ (A3 : Option Addr) (c3 : Nat), Lq w wx [(.slice A3 (zl M2) c3, M2.natAbs), (.slice A2 (zl N) c2, N.natAbs)] [] [] [(gt, 26, #[.bool (ng M2), .slice A3 (zl M2) c3, .int .i64 E2]), (w.heap.size + 2, 26, #[.bool (ng N), .slice A2 (zl N) c2, .int .i64 K]), (w.heap.size, 100, #[.int .i64 fac, .func (.func F) #[] #[], .int .i64 n]), (w.heap.size + 1, 26, #[.bool false, .slice none 0 0, .int .i64 0])])
  case first =>
   go_region_with (first | (go_at_call 200; (with_reducible refine (O1.out _ _ ?_ ).mono ?_); (· (refine isD_n (L.getN ?_); (repeat (first | (with_reducible exact mS) | apply mT)))); rintro e9 wh ⟨vh, rfl, iq, be⟩; obtain ⟨Af, cf, Bf, df, rfl, _, _, _⟩:=iq.form; replace L:=(L.step be).q iq; clear be iq; (try (obtain ⟨xx00,xx01,xx02⟩:=L.b0.a3; obtain ⟨yy00,yy01,yy02⟩:=L.b0.f3)); (try (obtain ⟨xx20,xx21,xx22⟩:=L.tl.tl.b0.a3))) | ((with_reducible refine (O2.out _ ).mono ?_); rintro e9 wh ⟨vh, rfl, iq, be⟩; obtain ⟨Af, cf, Bf, df, rfl, _, _, _⟩:=iq.form; replace L:=(L.step be).q iq; clear be iq; (try (obtain ⟨xx00,xx01,xx02⟩:=L.b0.a3; obtain ⟨yy00,yy01,yy02⟩:=L.b0.f3)); (try (obtain ⟨xx20,xx21,xx22⟩:=L.tl.tl.b0.a3))) | (go_at_call 199; (with_reducible refine (O3.out _ _ _ ?_ ?_ ).mono ?_); (· (refine L.getQ ?_; (repeat (first | (with_reducible exact mS) | apply mT)))); (· (refine L.getQ ?_; (repeat (first | (with_reducible exact mS) | apply mT)))); rintro e9 wh ⟨vh, rfl, iq, be⟩; obtain ⟨Af, cf, Bf, df, rfl, _, _, _⟩:=iq.form; replace L:=(L.step be).q iq; clear be iq; (try (obtain ⟨xx00,xx01,xx02⟩:=L.b0.a3; obtain ⟨yy00,yy01,yy02⟩:=L.b0.f3)); (try (obtain ⟨xx20,xx21,xx22⟩:=L.tl.tl.b0.a3))) | (go_at_call 101; (with_reducible refine (O4.out _ _ ?_ ?_ ).mono ?_); (· (refine L.getQ ?_; (repeat (first | (with_reducible exact mS) | apply mT)))); (· exact L.below); rintro e9 wh ⟨vh, rfl, id, be⟩; obtain ⟨A3, c3, rfl, _, in9⟩:=id.form; replace L:=(L.step be).n in9; clear be id in9; (try (obtain ⟨xx00,xx01,xx02⟩:=L.b0.a3; obtain ⟨yy00,yy01,yy02⟩:=L.b0.f3)); (try (obtain ⟨xx20,xx21,xx22⟩:=L.tl.tl.b0.a3))))
   all_goals
    have P:=L.putD (by omega) (by first | (simp; done) | (simp; omega)) (ng M2) A3 (zl M2) c3 E2
    unfold put3 at P
    go_wp2_with fail
    go_meet
    exact ⟨A3, c3, P.subs (by simp) (by simp)⟩
  case rest =>
   clear L
   obtain ⟨A3, c3, L⟩:=hcut
   have hgt:=L.b0.lt
   obtain ⟨cel00,cel01,cel02⟩:=L.b0.a3
   obtain ⟨f00,f01,f02⟩:=L.b0.f3
   (try go_wp2_with fail)
   refine (O5.out _ _ (isD_n (m:=M2) (e:=E2) (s:=.slice A3 (zl M2) c3) (L.getN (by simp)))).mono ?_
   rintro e w12 ⟨rfl, be⟩
   clear cel00 f00 cel01 f01 cel02 f02
   replace L:=L.step be
   clear be
   by_cases h0 : t2 = 0
   ·have r6 : (sg9 == 0) = true:=r5.trans (decide_eq_true h0)
    obtain rfl:=HQ.out.2.1 h0
    have G4':=G4.out
    rw [HQ.out.1.1, HQ.out.1.2] at G4'
    have G5:=Hd9 G4'
    clear G4' G4 r5 HQ HM2 O1 O2 O3 O4 O5 O6
    replace L:=L.swap
    obtain ⟨cel00,cel01,cel02⟩:=L.b0.a3
    obtain ⟨f00,f01,f02⟩:=L.b0.f3
    obtain ⟨cel20,cel21,cel22⟩:=L.tl.tl.b0.a3
    (try go_wp2_with fail)
    replace L:=L.drew
    clear cel00 f00 cel01 f01 cel02 f02 cel20 cel21 cel22
    obtain ⟨cel00,cel01,cel02⟩:=L.b0.a3
    obtain ⟨f00,f01,f02⟩:=L.b0.f3
    obtain ⟨cel20,cel21,cel22⟩:=L.tl.tl.b0.a3
    go_region_with (first | (go_at_call 92; (with_reducible refine (G3.out _ ?_ ).mono ?_); (· exact L.below); rintro e9 wh ⟨vh, rfl, id, be⟩; obtain ⟨A4, c4, rfl, _, in9⟩:=id.form; replace L:=(L.step be).n in9; clear be id in9; (try (obtain ⟨xx00,xx01,xx02⟩:=L.b0.a3; obtain ⟨yy00,yy01,yy02⟩:=L.b0.f3)); (try (obtain ⟨xx20,xx21,xx22⟩:=L.tl.tl.b0.a3))) | (go_at_call 90; (with_reducible refine (G5.out _ _ _ ?_ ?_ ?_ ).mono ?_); (· (refine isD_n (L.getN ?_); (repeat (first | (with_reducible exact mS) | apply mT)))); (· (refine isD_n (L.getN ?_); (repeat (first | (with_reducible exact mS) | apply mT)))); (· exact L.below); rintro e9 wh ⟨vh, rfl, id, be⟩; obtain ⟨A5, c5, rfl, _, in9⟩:=id.form; replace L:=(L.step be).n in9; clear be id in9; (try (obtain ⟨xx00,xx01,xx02⟩:=L.b0.a3; obtain ⟨yy00,yy01,yy02⟩:=L.b0.f3)); (try (obtain ⟨xx20,xx21,xx22⟩:=L.tl.tl.b0.a3))))
    all_goals
     clear cel00 f00 cel01 f01 cel02 f02 cel20 cel21 cel22
     have P:=L.putD (by omega) (by first | (simp; done) | (simp; omega)) (ng Mr) A5 (zl Mr) c5 Er
     obtain ⟨p0,p1,p2⟩:=P.b0.a3
     obtain ⟨q0,q1,q2⟩:=P.tl.tl.tl.b0.a3
     obtain ⟨q3,q4,q5⟩:=P.tl.tl.tl.b0.f3
     unfold put3 at p0 p1 p2 q0 q1 q2 q3 q4 q5 P
     go_wp2_with fail
     replace L:=P.pull2.swap.pull2.pull2
     clear P p0 p1 p2 q0 q1 q2 q3 q4 q5
     have L4 : Lq w _ _ _ _ _:=L.subs (ns':=[(.slice A5 (zl Mr) c5, Mr.natAbs)]) (bs':=[(w.heap.size + 1, 26, #[.bool false, .slice none 0 0, .int .i64 0])]) (by simp) (by simp)
     clear L
     have L:=L4
     have LP:=L.putD (by omega) (by first | (simp; done) | (simp; omega)) (ng Mr) A5 (zl Mr) c5 (Er)
     obtain ⟨k0,k1,k2⟩:=LP.b0.a3
     unfold put3 at k0 k1 k2
     exact bodyPost_ret (v:=.agg #[.bool (ng Mr), .slice A5 (zl Mr) c5, .int .i64 (Er)]) (by simp [results, Tryz.results150, go_sem, k0, k1, k2]) rfl ⟨_, rfl, isD_n LP.hn, LP.below⟩
   ·have r6 : (sg9 == 0) = false:=r5.trans (decide_eq_false h0)
    have HI:=Hd9 (HQ.out.2.2 h0)
    clear r5 HQ O1 O2 O3 O4 O5 G3 G4
    replace L:=L.swap
    obtain ⟨cel00,cel01,cel02⟩:=L.b0.a3
    obtain ⟨f00,f01,f02⟩:=L.b0.f3
    obtain ⟨cel10,cel11,cel12⟩:=L.tl.b0.a3
    go_wp2_with fail
    refine (O6.out _ _ _ (isD_n (m:=N) (e:=K) (s:=.slice A2 (zl N) c2) (L.getN (by simp))) (isD_n (m:=M2) (e:=E2) (s:=.slice A3 (zl M2) c3) (L.getN (by simp))) L.below).mono ?_
    rintro e w13 ⟨vv, rfl, id, be⟩
    clear cel00 f00 cel01 f01 cel02 f02 cel10 cel11 cel12
    obtain ⟨A6, c6, rfl, _, in9⟩:=id.form
    replace L:=(L.step be).n in9
    clear be id in9
    obtain ⟨cel00,cel01,cel02⟩:=L.b0.a3
    obtain ⟨f00,f01,f02⟩:=L.b0.f3
    replace L:=L.putD (by omega) (by first | (simp; done) | (simp; omega)) (ng N2) A6 (zl N2) c6 K2
    unfold put3 at L
    go_wp2_with fail
    go_roundw
    case rel => exact ⟨g, k + 1, t2, s2, M2, E2, N2, K2, A3, A6, c3, c6, by go_num, L.subs (by simp) (by simp), Hd9 ⟨HI.out, HM2.out⟩⟩
    case measure => simp [intOf]; omega

theorem i10out_yes (m e n f p : Int) (vx : Value) (w : World) (hx : IsI w vx m e n f) (lm : zl m ≤ 1000) (ln : zl n ≤ 1000) (he : -20000 ≤ e ∧ e ≤ 20000) (hf : -20000 ≤ f ∧ f ≤ 20000) (hp1 : -9223372036854775808 ≤ p) (hp2 : p ≤ 9223372036854775807) (hp : permB p = true) (r1 : mkR (cutQ (dq m e) p) (-p) = 0) (r2 : mkR (-(cutQ (-(dq n f)) p)) (-p) = 0) (hT : Tab w) :
  Calls Tryz.prog 58 #[vx, .int .i64 p] w (RetIE w (mkM (cutQ (dq m e) p) (-p)) (mkE (cutQ (dq m e) p) (-p)) (mkM (-(cutQ (-(dq n f)) p)) (-p)) (mkE (-(cutQ (-(dq n f)) p)) (-p)) 0):=by
 obtain ⟨A, c, B, d, rfl, hn1, hn2⟩:=hx.form
 have L0:=((Lq.mk0 w).n hn2).n hn1
 have h1:=fun v W h (hW : Below w.heap.size w W) => gfloor_any m e p v W h (by omega) (by omega) hp1 hp2 (hT.mono hW)
 have h2:=fun v W h (hW : Below w.heap.size w W) => gceil_any n f p v W h (by omega) (by omega) hp1 hp2 (hT.mono hW)
 rw [(g_yes hp (cutQ (dq m e) p)).1, (g_yes hp (cutQ (dq m e) p)).2.1, (g_yes hp (cutQ (dq m e) p)).2.2] at h1
 rw [(g_yes hp (-(cutQ (-(dq n f)) p))).1, (g_yes hp (-(cutQ (-(dq n f)) p))).2.1, (g_yes hp (-(cutQ (-(dq n f)) p))).2.2] at h2
 rw [r1] at h1
 rw [r2] at h2
 generalize mkM (cutQ (dq m e) p) (-p) = M at *
 generalize mkE (cutQ (dq m e) p) (-p) = E at *
 generalize mkM (-(cutQ (-(dq n f)) p)) (-p) = N at *
 generalize mkE (-(cutQ (-(dq n f)) p)) (-p) = G at *
 have H1:=Hd9 h1
 have H2:=Hd9 h2
 clear h1 h2 hx hn1 hn2 lm ln he hf hp1 hp2 hp hT r1 r2
 go_enter Tryz.func58, Tryz.ntmps58
 go_wp2_with fail
 have L:=((L0.varI (w.heap.size) (by simp) (ng m) A (zl m) c e (ng n) B (zl n) d f).varI (w.heap.size + 1) (by simp) false none 0 0 0 false none 0 0 0)
 obtain ⟨c00,c01,c02,c03,c04,c05⟩:=L.b0.a6
 obtain ⟨f00,f01,f02,f03,f04,f05⟩:=L.b0.f6
 obtain ⟨c10,c11,c12,c13,c14,c15⟩:=L.tl.b0.a6
 (try go_wp2_with fail)
 refine (H1.out _ _ (isD_n (m:=m) (e:=e) (s:=.slice A (zl m) c) (L.getN (v:=.slice A (zl m) c) (x:=(m).natAbs) (by simp))) L.below).mono ?_
 rintro e w1 ⟨vv, rfl, id, be⟩
 clear c00 f00 c01 f01 c02 f02 c03 f03 c04 f04 c05 f05 c10 c11 c12 c13 c14 c15
 obtain ⟨A8, c8, rfl, _, in9⟩:=id.form
 replace L:=(L.step be).n in9
 clear be id in9
 have hlg:=L.b0.lt
 replace L:=L.varD w1.heap.size rfl (ng M) A8 (zl M) c8 E
 obtain ⟨c00,c01,c02⟩:=L.b0.a3
 obtain ⟨c20,c21,c22,c23,c24,c25⟩:=L.tl.tl.b0.a6
 go_wp2_with fail
 obtain ⟨g, hg⟩:=nm9 (w1.heap.size)
 rw [hg] at L hlg c00 c01 c02 ⊢
 clear hg
 refine (H2.out _ _ (isD_n (m:=n) (e:=f) (s:=.slice B (zl n) d) (L.getN (v:=.slice B (zl n) d) (x:=(n).natAbs) (by simp))) L.below).mono ?_
 rintro e w2 ⟨vv, rfl, id, be⟩
 clear c00 c01 c02 c20 c21 c22 c23 c24 c25
 obtain ⟨A9, c9, rfl, _, in9⟩:=id.form
 replace L:=(L.step be).n in9
 clear be id in9
 have hlk9:=L.b0.lt
 replace L:=L.varD w2.heap.size rfl (ng N) A9 (zl N) c9 G
 have n1 : w.heap.size + 1 ≠ g:=by omega
 have n2 : w.heap.size + 1 ≠ w2.heap.size:=by omega
 replace L:=L.pull2
 obtain ⟨c00,c01,c02,c03,c04,c05⟩:=L.b0.a6
 obtain ⟨f00,f01,f02,f03,f04,f05⟩:=L.b0.f6
 obtain ⟨c10,c11,c12⟩:=L.tl.b0.a3
 obtain ⟨c20,c21,c22⟩:=L.tl.tl.b0.a3
 go_wp2_with fail
 have LP:=L.putI (by omega) (by simp [n1, n2, Ne.symm n1, Ne.symm n2]) (ng M) A8 (zl M) c8 E (ng N) A9 (zl N) c9 G
 obtain ⟨k0,k1,k2,k3,k4,k5⟩:=LP.b0.a6
 unfold put6 at k0 k1 k2 k3 k4 k5
 exact bodyPost_ret (v:=.tuple #[.agg #[.bool (ng M), .slice A8 (zl M) c8, .int .i64 E, .bool (ng N), .slice A9 (zl N) c9, .int .i64 G], .int .i64 0]) (by simp [results, Tryz.results58, go_sem, k0, k1, k2, k3, k4, k5]) rfl ⟨_, rfl, isI_n (LP.getN (by simp)) (LP.getN (by simp)), LP.below⟩
def RowP (w : World) (v : Value) (l : List (Int × Nat × Int)) : Prop:=∃ g c, v = .slice (some ⟨g, 0, none⟩) l.length c ∧ g < w.heap.size ∧ ∀ (j : Nat) (x : Int × Nat × Int), l[j]? = some x → w.cell? ⟨g, 3 * j, none⟩ = some (.int .i64 x.1) ∧ w.cell? ⟨g, 3 * j + 1, none⟩ = some (.func (.func x.2.1) #[] #[]) ∧ w.cell? ⟨g, 3 * j + 2, none⟩ = some (.int .i64 x.2.2)
def ttl : List Int → Int → Int
 | [], s => s
 | c :: l, s => ttl l (s + c)
def SmI (cs : List Int) (u t : Nat) (s T : Int) : Prop:=AbP s (u + t) ∧ ttl (cs.drop t) s = T
theorem SmI.step {cs : List Int} {u t : Nat} {s T c : Int} (h : SmI cs u t s T) (hc : cs[t]? = some c) (hb : AbP c u) : SmI cs u (t + 1) (s + c) T:=by
 refine ⟨h.1.add (hb.up (by omega)), ?_⟩
 have h2:=h.2
 obtain ⟨hl, e⟩:=List.getElem?_eq_some_iff.1 hc
 rw [List.drop_eq_getElem_cons hl, e, ttl] at h2
 exact h2
theorem SmI.last {cs : List Int} {u : Nat} {s T : Int} (h : SmI cs u cs.length s T) : s = T:=by
 have h2:=h.2
 rw [List.drop_length, ttl] at h2
 exact h2
theorem lo_out (T : Int) (k : Nat) {m e : Int} (h : dq m e = dq (T - 262144) (-((k + 32 : Nat) : Int))) : cutQ (dq m e) (k : Int) = loC T:=by
 rw [h, cutD_down 32 (by omega)]
 rfl
theorem hi_out (T : Int) (k : Nat) {m e : Int} (h : dq m e = dq (T + 262144) (-((k + 32 : Nat) : Int))) : -(cutQ (-(dq m e)) (k : Int)) = hiC T:=by
 rw [h, ← dq_neg, cutD_down 32 (by omega)]
 rfl
theorem loC_abs {T : Int} {u : Nat} (h : AbP T u) (hu : 18 ≤ u) : AbP (loC T) (u + 1) ∧ AbP (hiC T) (u + 1):=by
 have e0 : (262144 : Int) = ((2 ^ 18 : Nat) : Int):=by decide
 have h1 : AbP 262144 u:=AbP.up (j:=18) (by unfold AbP; decide) hu
 have a1:=h.add h1.neg
 have a2:=h.add h1
 rw [← Int.sub_eq_add_neg] at a1
 unfold AbP at *
 unfold loC hiC cdv
 have x1 : ((T - 262144) / 4294967296).natAbs ≤ (T - 262144).natAbs:=Int.natAbs_ediv_le_natAbs _ _
 have x2 : (-(T + 262144) / 4294967296).natAbs ≤ (-(T + 262144)).natAbs:=Int.natAbs_ediv_le_natAbs _ _
 rw [Int.natAbs_neg] at x2 ⊢
 exact ⟨Nat.le_trans x1 a1, Nat.le_trans x2 a2⟩

theorem cencl_yes (k : Nat) (l : List (Int × Nat × Int)) (cs : List Int) (T : Int) (vl : Value) (w : World) (hk : k ≤ 4150) (hl : RowP w vl l) (hlen : cs.length = l.length) (hn : l.length ≤ 100) (hT : Tab w) (hb : ∀ c ∈ cs, AbP c 4850) (hsum : ttl cs 0 = T) (hf : ∀ (j : Nat) x c W, l[j]? = some x → cs[j]? = some c → Below w.heap.size w W → Calls Tryz.prog 150 #[.agg #[.int .i64 x.1, .func (.func x.2.1) #[] #[], .int .i64 x.2.2], .int .i64 ((k + 32 : Nat) : Int)] W (RetD8 W (mkM c 0) (mkE c 0))) :
    Calls Tryz.prog 87 #[.int .i64 (k : Int), vl] w (RetIE w (mkM (loC T) (-(k : Int))) (mkE (loC T) (-(k : Int))) (mkM (hiC T) (-(k : Int))) (mkE (hiC T) (-(k : Int))) 0):=by
  obtain ⟨g, c, rfl, hg, hrow⟩:=hl
  obtain ⟨q, hq⟩:=nm9 (k + 32)
  obtain ⟨n, hn2⟩:=nm9 (l.length)
  have hTb : AbP T 4950:=by
    have hx : ∀ (r : List Int) (s : Int) (u : Nat), (∀ c ∈ r, AbP c 4850) → AbP s (4850 + u) → AbP (ttl r s) (4850 + (u + r.length)):=fun r => by
      induction r with
      | nil => intro s u _ h; exact h
      | cons c r ih =>
        intro s u h1 h2
        rw [ttl]
        have:=ih (s + c) (u + 1) (fun x hx => h1 x (List.mem_cons_of_mem _ hx)) (h2.add ((h1 c mS).up (by omega)))
        rw [List.length_cons, show u + (r.length + 1) = u + 1 + r.length by omega]
        exact this
    have:=hx cs 0 0 hb (AbP.zero _)
    rw [hsum] at this
    exact this.up (by omega)
  obtain ⟨lb1, lb2⟩:=loC_abs hTb (by omega)
  have mb : AbP 262144 4950:=AbP.up (j:=18) (by unfold AbP; decide) (by omega)
  have HP0:=fun W => cperm_any (k : Int) W
  have hkb : okW (k : Int) = true:=by
    unfold okW
    rw [decide_eq_true (show (0 : Int) ≤ (k : Int) by omega), decide_eq_true (show (k : Int) ≤ 4224 by omega)]
    rfl
  rw [hkb] at HP0
  have hTT:=fun W (hW : Below w.heap.size w W) => hT.mono hW
  have g1:=fun W (hW : Below w.heap.size w W) => dof_any 1 W (by omega) (by omega) (hTT W hW)
  obtain ⟨u1, u2, u3⟩:=nf_up (k:=18) (by omega)
  obtain ⟨_, y2, y3, y4, _, _⟩:=nf (t:=1) (v:=0) (by unfold AbP; decide) (by omega)
  have g2:=fun x W h (hW : Below w.heap.size w W) => dshift_any (mkM 1 0) (mkE 1 0) 18 x W h (by omega) (by omega) (by omega) (hTT W hW)
  rw [show ((18 : Nat) : Int) = 18 from rfl] at u1 u2 u3
  rw [show (2 : Int) ^ 18 = 262144 from by decide] at u2 u3
  rw [u1, u2, u3] at g2
  obtain ⟨_, t2, t3, t4, _, _⟩:=nf hTb (by omega)
  obtain ⟨_, v2, v3, v4, _, _⟩:=nf mb (by omega)
  obtain ⟨a1, a2, a3⟩:=nf_sub hTb mb (by omega)
  obtain ⟨b1, b2, b3⟩:=nf_add hTb mb (by omega)
  have g3:=fun x y W h j (hW : Below w.heap.size w W) => dsub_any (mkM T 0) (mkE T 0) (mkM 262144 0) (mkE 262144 0) x y W h j (by omega) (by omega) (by omega) (by omega) (hTT W hW)
  rw [a1, a2, a3] at g3
  have g4:=fun x y W h j (hW : Below w.heap.size w W) => dadd_any (mkM T 0) (mkE T 0) (mkM 262144 0) (mkE 262144 0) x y W h j (by omega) (by omega) (by omega) (by omega) (hTT W hW)
  rw [b1, b2, b3] at g4
  have lob : AbP (T - 262144) 4951:=by rw [Int.sub_eq_add_neg]; exact hTb.add mb.neg
  have hib : AbP (T + 262144) 4951:=hTb.add mb
  obtain ⟨d1, d2, d3, d4, d5, d6⟩:=nf_down (k:=q) lob (by omega) (by omega)
  obtain ⟨e1, e2, e3, e4, e5, e6⟩:=nf_down (k:=q) hib (by omega) (by omega)
  obtain ⟨_, i2, i3, i4, _, _⟩:=nf lob (by omega)
  obtain ⟨_, j2, j3, j4, _, _⟩:=nf hib (by omega)
  have g5:=fun x W h (hW : Below w.heap.size w W) => dshift_any (mkM (T - 262144) 0) (mkE (T - 262144) 0) (-(q : Int)) x W h (by omega) (by omega) (by omega) (hTT W hW)
  have g6:=fun x W h (hW : Below w.heap.size w W) => dshift_any (mkM (T + 262144) 0) (mkE (T + 262144) 0) (-(q : Int)) x W h (by omega) (by omega) (by omega) (hTT W hW)
  rw [d1] at g5
  rw [e1] at g6
  rw [← hq] at d3 e3
  have lo1:=lo_out T k d3
  have hi1:=hi_out T k e3
  rw [hq] at lo1 hi1
  have z1:=(lb1).zl
  have z2:=(lb2).zl
  have hpk : permB (k : Int) = true:=by
    unfold permB
    rw [decide_eq_true (show (-2048 : Int) ≤ (k : Int) by omega), decide_eq_true (show (k : Int) ≤ 8192 by omega)]
    rfl
  have g7:=fun x W h (hW : Below w.heap.size w W) => i10out_yes (mkM (mkM (T - 262144) 0) (mkE (T - 262144) 0 + -(q : Int))) (mkE (mkM (T - 262144) 0) (mkE (T - 262144) 0 + -(q : Int))) (mkM (mkM (T + 262144) 0) (mkE (T + 262144) 0 + -(q : Int))) (mkE (mkM (T + 262144) 0) (mkE (T + 262144) 0 + -(q : Int))) (k : Int) x W h (by omega) (by omega) ⟨d5, d6⟩ ⟨e5, e6⟩ (by omega) (by omega) hpk (by rw [lo1]; exact mk_fits9 (by omega) (by omega) (by omega)) (by rw [hi1]; exact mk_fits9 (by omega) (by omega) (by omega)) (hTT W hW)
  rw [lo1, hi1] at g7
  clear lo1 hi1 d1 d2 d3 d4 d5 d6 e1 e2 e3 e4 e5 e6 u1 u2 u3 y2 y3 y4 t2 t3 t4 v2 v3 v4 a1 a2 a3 b1 b2 b3 i2 i3 i4 j2 j3 j4 lob hib lb1 lb2 z1 z2 hkb
  generalize mkM (loC T) (-(k : Int)) = Ma at *
  generalize mkE (loC T) (-(k : Int)) = Ea at *
  generalize mkM (hiC T) (-(k : Int)) = Na at *
  generalize mkE (hiC T) (-(k : Int)) = Fa at *
  generalize mkM (mkM (T - 262144) 0) (mkE (T - 262144) 0 + -(q : Int)) = Mb at *
  generalize mkE (mkM (T - 262144) 0) (mkE (T - 262144) 0 + -(q : Int)) = Eb at *
  generalize mkM (mkM (T + 262144) 0) (mkE (T + 262144) 0 + -(q : Int)) = Nb at *
  generalize mkE (mkM (T + 262144) 0) (mkE (T + 262144) 0 + -(q : Int)) = Fb at *
  generalize mkM (T - 262144) 0 = Mc at *
  generalize mkE (T - 262144) 0 = Ec at *
  generalize mkM (T + 262144) 0 = Nc at *
  generalize mkE (T + 262144) 0 = Fc at *
  generalize mkM 262144 0 = Mm at *
  generalize mkE 262144 0 = Em at *
  generalize mkM 1 0 = M1 at *
  generalize mkE 1 0 = E1 at *
  rw [hq] at hf
  rw [hn2] at hlen hn ⊢
  have w1 : IntKind.i64.wrap ((k : Int) + 32) = (q : Int):=by rw [IntKind.wrap_i64]; omega
  have w2 : IntKind.i64.wrap (-(q : Int)) = -(q : Int):=by rw [IntKind.wrap_i64]; omega
  have HRW:=Hd9 hrow
  have HB:=Hd9 hb
  have HN:=Hd9 (And.intro hn2 hlen)
  have HT:=Hd9 hTT
  have HF:=Hd9 hf
  have HP:=Hd9 HP0
  have HS:=Hd9 (show SmI cs 4850 0 0 T from ⟨AbP.zero _, hsum⟩)
  have G1:=Hd9 g1
  have G2:=Hd9 g2
  have G3:=Hd9 g3
  have G4:=Hd9 g4
  have G5:=Hd9 g5
  have G6:=Hd9 g6
  have G7:=Hd9 g7
  clear g1 g2 g3 g4 g5 g6 g7 hf hT hTT hb hsum HP0 hrow hpk hTb mb hq hn2 hlen
  go_enter Tryz.func87, Tryz.ntmps87
  have L:=((Lq.mk0 w).varI (w.heap.size) (by simp) false none 0 0 0 false none 0 0 0)
  (try go_wp2_with fail)
  refine (HP.out _).mono ?_
  rintro e9 w' ⟨rfl, rfl⟩
  replace L:=L.varD (w.heap.size + 1) (by simp) false none 0 0 0
  obtain ⟨c00,c01,c02⟩:=L.b0.a3
  obtain ⟨f00,f01,f02⟩:=L.b0.f3
  (try go_wp2_with fail)
  clear c00 f00 c01 f01 c02 f02
  go_loopw [25] (fun i wr => ∃ (t : Nat) (s N K : Int) (A2 : Option Addr) (c2 : Nat), i = .int .i64 (t : Int) ∧ t ≤ n ∧ Lq w wr [(.slice A2 (zl N) c2, N.natAbs)] [] [] [(w.heap.size + 1, 26, #[.bool (ng N), .slice A2 (zl N) c2, .int .i64 K]), (w.heap.size, 28, #[.bool false, .slice none 0 0, .int .i64 0, .bool false, .slice none 0 0, .int .i64 0])] ∧ Hid (SmI cs 4850 t s T ∧ mkM s 0 = N ∧ mkE s 0 = K)) (fun i _ => n - (intOf i).toNat)
  case atStart =>
    have zz : zl 0 = 0:=len_zero
    have LN:=L.n (v:=.slice none 0 0) (x:=0) (IsN.zero _)
    refine ⟨0, 0, 0, 0, none, 0, by go_num, by omega, ?_, Hd9 ⟨HS.out, nf00⟩⟩
    rw [zz]
    exact LN.subs (by simp) (by simp [ng])
  case round =>
    clear L HS
    obtain ⟨t, s, N, K, A2, c2, rfl, ht, L, HS⟩:=hrel
    rcases Nat.eq_or_lt_of_le ht with rfl | ht3
    · obtain ⟨hI, hN, hK⟩:=HS.out
      rw [show t = cs.length from HN.out.2.symm] at hI
      obtain rfl:=hI.last
      have G3':=G3.out
      have G4':=G4.out
      rw [hN, hK] at G3' G4'
      have G8:=Hd9 G3'
      have G9:=Hd9 G4'
      clear G3' G4' hI hN hK HS G3 G4 HB HF HRW
      have hl1:=L.b0.lt
      obtain ⟨c00,c01,c02⟩:=L.b0.a3
      (try go_wp2_with fail)
      refine (G1.out _ L.below).mono ?_
      rintro e w41 ⟨v1, rfl, id, be⟩
      clear c00 c01 c02
      replace L:=L.step be
      clear be
      (try go_wp2_with fail)
      refine (G2.out _ _ id L.below).mono ?_
      rintro e w42 ⟨v2, rfl, iz, be⟩
      obtain ⟨A3, c3, rfl, _, in9⟩:=iz.form
      replace L:=(L.step be).n in9
      clear be iz in9 id
      have hl3:=L.b0.lt
      replace L:=L.varD w42.heap.size rfl (ng Mm) A3 (zl Mm) c3 Em
      obtain ⟨c00,c01,c02⟩:=L.b0.a3
      obtain ⟨c10,c11,c12⟩:=L.tl.b0.a3
      go_wp2_with fail
      clear c00 c01 c02 c10 c11 c12
      obtain ⟨gm, hgm⟩:=nm9 (w42.heap.size)
      rw [hgm] at L hl3 ⊢
      clear hgm
      refine (G8.out _ _ _ (isD_n (m:=N) (e:=K) (s:=.slice A2 (zl N) c2) (L.getN (by simp))) (isD_n (m:=Mm) (e:=Em) (s:=.slice A3 (zl Mm) c3) (L.getN (by simp))) L.below).mono ?_
      rintro e w43 ⟨v2, rfl, iz, be⟩
      obtain ⟨A4, c4, rfl, _, in9⟩:=iz.form
      replace L:=(L.step be).n in9
      clear be iz in9
      have hl4:=L.b0.lt
      replace L:=L.varD w43.heap.size rfl (ng Mc) A4 (zl Mc) c4 Ec
      obtain ⟨c00,c01,c02⟩:=L.b0.a3
      obtain ⟨c10,c11,c12⟩:=L.tl.b0.a3
      obtain ⟨c20,c21,c22⟩:=L.tl.tl.b0.a3
      go_wp2_with fail
      clear c00 c01 c02 c10 c11 c12 c20 c21 c22
      obtain ⟨gl, hgl⟩:=nm9 (w43.heap.size)
      rw [hgl] at L hl4 ⊢
      clear hgl
      refine (G9.out _ _ _ (isD_n (m:=N) (e:=K) (s:=.slice A2 (zl N) c2) (L.getN (by simp))) (isD_n (m:=Mm) (e:=Em) (s:=.slice A3 (zl Mm) c3) (L.getN (by simp))) L.below).mono ?_
      rintro e w44 ⟨v2, rfl, iz, be⟩
      obtain ⟨A5, c5, rfl, _, in9⟩:=iz.form
      replace L:=(L.step be).n in9
      clear be iz in9
      have hl5:=L.b0.lt
      replace L:=L.varD w44.heap.size rfl (ng Nc) A5 (zl Nc) c5 Fc
      obtain ⟨c00,c01,c02⟩:=L.b0.a3
      obtain ⟨c10,c11,c12⟩:=L.tl.b0.a3
      go_wp2_with fail
      clear c00 c01 c02 c10 c11 c12
      obtain ⟨gh, hgh⟩:=nm9 (w44.heap.size)
      rw [hgh] at L hl5 ⊢
      clear hgh
      refine (G5.out _ _ (isD_n (m:=Mc) (e:=Ec) (s:=.slice A4 (zl Mc) c4) (L.getN (by simp))) L.below).mono ?_
      rintro e w45 ⟨v2, rfl, iz, be⟩
      obtain ⟨A6, c6, rfl, _, in9⟩:=iz.form
      replace L:=(L.step be).n in9
      clear be iz in9
      have L4:=L.subs (ns':=[(.slice A6 (zl Mb) c6, Mb.natAbs), (.slice A5 (zl Nc) c5, Nc.natAbs)]) (bs':=[(gl, 26, #[.bool (ng Mc), .slice A4 (zl Mc) c4, .int .i64 Ec]), (gh, 26, #[.bool (ng Nc), .slice A5 (zl Nc) c5, .int .i64 Fc]), (w.heap.size, 28, #[.bool false, .slice none 0 0, .int .i64 0, .bool false, .slice none 0 0, .int .i64 0])]) (by simp) (by simp)
      clear L
      have L:=L4
      clear L4
      have n1 : gl ≠ gh:=by omega
      have n2 : w.heap.size ≠ gh:=by omega
      have n3 : w.heap.size ≠ gl:=by omega
      obtain ⟨c00,c01,c02⟩:=L.b0.a3
      obtain ⟨f00,f01,f02⟩:=L.b0.f3
      obtain ⟨c10,c11,c12⟩:=L.tl.b0.a3
      have P:=L.putD (by omega) (by simp [n1, n2, n3, Ne.symm n1, Ne.symm n2, Ne.symm n3]) (ng Mb) A6 (zl Mb) c6 Eb
      obtain ⟨p0,p1,p2⟩:=P.tl.b0.a3
      unfold put3 at p0 p1 p2 P
      go_wp2_with fail
      replace L:=P
      clear P p0 p1 p2
      clear c00 f00 c01 f01 c02 f02 c10 c11 c12
      refine (G6.out _ _ (isD_n (m:=Nc) (e:=Fc) (s:=.slice A5 (zl Nc) c5) (L.getN (by simp))) L.below).mono ?_
      rintro e w46 ⟨v2, rfl, iz, be⟩
      obtain ⟨A7, c7, rfl, _, in9⟩:=iz.form
      replace L:=(L.step be).n in9
      clear be iz in9
      replace L:=L.swap
      obtain ⟨c00,c01,c02⟩:=L.b0.a3
      obtain ⟨f00,f01,f02⟩:=L.b0.f3
      obtain ⟨c10,c11,c12⟩:=L.tl.b0.a3
      have P:=L.putD (by omega) (by simp [n1, n2, n3, Ne.symm n1, Ne.symm n2, Ne.symm n3]) (ng Nb) A7 (zl Nb) c7 Fb
      obtain ⟨p0,p1,p2⟩:=P.tl.b0.a3
      obtain ⟨p3,p4,p5⟩:=P.b0.a3
      unfold put3 at p0 p1 p2 p3 p4 p5 P
      go_wp2_with fail
      replace L:=P
      clear P p0 p1 p2 p3 p4 p5
      clear c00 f00 c01 f01 c02 f02 c10 c11 c12
      refine (G7.out _ _ (isI_n (m:=Mb) (e:=Eb) (n:=Nb) (f:=Fb) (s:=.slice A6 (zl Mb) c6) (t:=.slice A7 (zl Nb) c7) (L.getN (by simp)) (L.getN (by simp))) L.below).mono ?_
      rintro e w47 ⟨v2, rfl, ii, be⟩
      obtain ⟨A8, c8, B8, d8, rfl, ia, ib⟩:=ii.form
      replace L:=(((L.step be).n ib).n ia).pull2
      clear be ii ia ib
      obtain ⟨c00,c01,c02,c03,c04,c05⟩:=L.b0.a6
      obtain ⟨f00,f01,f02,f03,f04,f05⟩:=L.b0.f6
      go_wp2_with fail
      have LP:=L.putI (by omega) (by simp [n2, n3, Ne.symm n2, Ne.symm n3]) (ng Ma) A8 (zl Ma) c8 Ea (ng Na) B8 (zl Na) d8 Fa
      obtain ⟨k0,k1,k2,k3,k4,k5⟩:=LP.b0.a6
      unfold put6 at k0 k1 k2 k3 k4 k5
      exact bodyPost_ret (v:=.tuple #[.agg #[.bool (ng Ma), .slice A8 (zl Ma) c8, .int .i64 Ea, .bool (ng Na), .slice B8 (zl Na) d8, .int .i64 Fa], .int .i64 0]) (by simp [results, Tryz.results87, go_sem, k0, k1, k2, k3, k4, k5]) rfl ⟨_, rfl, isI_n (LP.getN (by simp)) (LP.getN (by simp)), LP.below⟩
    · obtain ⟨x, hx⟩ : ∃ x, l[t]? = some x:=⟨_, List.getElem?_eq_getElem (by rw [HN.out.1]; exact ht3)⟩
      obtain ⟨cc, hcc⟩ : ∃ x, cs[t]? = some x:=⟨_, List.getElem?_eq_getElem (by rw [HN.out.2]; exact ht3)⟩
      obtain ⟨e0, e1, e2⟩:=HRW.out t x hx
      replace e0:=(L.below.cell (p:=⟨g, 3 * t, none⟩) hg).trans e0
      replace e1:=(L.below.cell (p:=⟨g, 3 * t + 1, none⟩) hg).trans e1
      replace e2:=(L.below.cell (p:=⟨g, 3 * t + 2, none⟩) hg).trans e2
      rw [Nat.mul_comm 3 t] at e0 e1 e2
      obtain ⟨hI, hN, hK⟩:=HS.out
      have hcb:=HB.out _ (List.mem_of_getElem? hcc)
      have hI2:=hI.step hcc hcb
      have o1:=fun W hW => HF.out t x cc W hx hcc hW
      obtain ⟨a1, a2, a3⟩:=nf_add hI.1 (hcb.up (show 4850 ≤ 4850 + t by omega)) (by omega)
      obtain ⟨_, b2, b3, b4, _, _⟩:=nf hI.1 (by omega)
      obtain ⟨_, d2, d3, d4, _, _⟩:=nf hcb (by omega)
      have o2:=fun x y W h j (hW : Below w.heap.size w W) => dadd_any (mkM s 0) (mkE s 0) (mkM cc 0) (mkE cc 0) x y W h j (by omega) (by omega) (by omega) (by omega) (HT.out W hW)
      rw [a1, a2, a3] at o2
      clear a1 a2 a3 b2 b3 b4 d2 d3 d4 hcb hI hcc hx
      obtain ⟨s2, hs2⟩:=nm9 (s + cc)
      rw [hs2] at o2 hI2
      rw [hN, hK] at o2
      obtain ⟨N2, hN2⟩:=nm9 (mkM s2 0)
      obtain ⟨K2, hK2⟩:=nm9 (mkE s2 0)
      rw [hN2, hK2] at o2
      generalize mkM cc 0 = Mx at *
      generalize mkE cc 0 = Ex at *
      have HR:=Hd9 (And.intro hI2 (And.intro hN2 hK2))
      have O1:=Hd9 o1
      have O2:=Hd9 o2
      obtain ⟨xa, xF, xn⟩:=x
      dsimp only at e0 e1 e2 O1
      have hlt : (t : Int) < (n : Int):=by omega
      have ht0 : (0 : Int) ≤ (t : Int):=by omega
      have w3 : IntKind.i64.wrap ((t : Int) + 1) = (t : Int) + 1:=by rw [IntKind.wrap_i64]; omega
      have hl1:=L.b0.lt
      have hsf:=fun (a : Addr) (W : World) => run_store Tryz.prog W a (.func (.func xF) #[] #[]) .plain rfl
      clear o1 o2 hI2 hN2 hK2 hN hK hs2 HS
      replace L:=L.varP wr.heap.size rfl xa xF xn
      obtain ⟨cel00,cel01,cel02⟩:=L.b0.a3
      obtain ⟨cel10,cel11,cel12⟩:=L.tl.b0.a3
      go_wp2_with fail
      clear cel00 cel01 cel02 cel10 cel11 cel12
      obtain ⟨gx, hgx⟩:=nm9 (wr.heap.size)
      rw [hgx] at L hl1 ⊢
      clear hgx e0 e1 e2
      have n1 : w.heap.size + 1 ≠ gx:=by omega
      obtain ⟨cel00,cel01,cel02⟩:=L.b0.a3
      obtain ⟨cel10,cel11,cel12⟩:=L.tl.b0.a3
      (try go_wp2_with fail)
      replace L:=L.drew.swap
      clear cel00 cel01 cel02 cel10 cel11 cel12
      obtain ⟨cel00,cel01,cel02⟩:=L.b0.a3
      obtain ⟨f00,f01,f02⟩:=L.b0.f3
      obtain ⟨cel10,cel11,cel12⟩:=L.tl.b0.a3
      go_region_with (first | (go_at_call 150; (with_reducible refine (O1.out _ ?_ ).mono ?_); (· exact L.below); rintro e9 wh ⟨vh, rfl, id, be⟩; obtain ⟨A4, c4, rfl, _, in9⟩:=id.form; replace L:=(L.step be).n in9; clear be id in9; (try (obtain ⟨xx00,xx01,xx02⟩:=L.b0.a3; obtain ⟨yy00,yy01,yy02⟩:=L.b0.f3)); (try (obtain ⟨xx10,xx11,xx12⟩:=L.tl.b0.a3))) | (go_at_call 57; (with_reducible refine (O2.out _ _ _ ?_ ?_ ?_ ).mono ?_); (· (refine isD_n (L.getN ?_); (repeat (first | (with_reducible exact mS) | apply mT)))); (· (refine isD_n (L.getN ?_); (repeat (first | (with_reducible exact mS) | apply mT)))); (· exact L.below); rintro e9 wh ⟨vh, rfl, id, be⟩; obtain ⟨A5, c5, rfl, _, in9⟩:=id.form; replace L:=(L.step be).n in9; clear be id in9; (try (obtain ⟨xx00,xx01,xx02⟩:=L.b0.a3; obtain ⟨yy00,yy01,yy02⟩:=L.b0.f3)); (try (obtain ⟨xx10,xx11,xx12⟩:=L.tl.b0.a3))))
      all_goals
        clear cel00 f00 cel01 f01 cel02 f02 cel10 cel11 cel12
        have P:=L.putD (by omega) (by simp [n1, Ne.symm n1]) (ng N2) A5 (zl N2) c5 K2
        unfold put3 at P
        go_wp2_with fail
        replace L:=P
        clear P
        go_roundw
        case rel => exact ⟨t + 1, s2, N2, K2, A5, c5, by go_num, by omega, L.subs (by simp) (by simp), HR⟩
        case measure => simp [intOf]; omega

def inM (c : Int) (k : Nat) : Option Int → Bool
 | none => false
 | some T => decide (loC T * 2 ^ (500 - k) + 1048576 ≤ c) && decide (c + 1048576 ≤ hiC T * 2 ^ (500 - k))
theorem lnm_all : (List.range 200).all (fun k => inM cLn k (lnT (k + 32))) = true:=by decide +kernel
theorem ln_up : UpE (dq (cLn - 1048576) (-500)) 2:=(exp_up 104 (by decide +kernel)).up (by decide +kernel)
theorem ln_lo : LoE 2 (dq (cLn + 1048576) (-500)):=(exp_lo 104 _).down (by decide +kernel)
structure Cn (T c : Int) (k : Nat) : Prop where
 al : AbP (loC T) (k + 3)
 ah : AbP (hiC T) (k + 3)
 lo : dq (loC T) (-(k : Int)) ≤ dq (c - 1048576) (-500)
 hi : dq (c + 1048576) (-500) ≤ dq (hiC T) (-(k : Int))
 wd : hiC T ≤ loC T + 2
theorem dq_up9 (C : Int) {k F : Nat} (h : k ≤ F) : dq C (-(k : Int)) = dq (C * 2 ^ (F - k)) (-(F : Int)):=by
 refine dq_eq (F := -(F : Int)) ?_ (by omega) (by omega)
 rw [show (-(k : Int) - -(F : Int)).toNat = F - k by omega, show (-(F : Int) - -(F : Int)).toNat = 0 by omega]
 simp
theorem cn_of {c : Int} {k : Nat} {o : Option Int} (hk : k < 200) (hc : 1048576 ≤ c ∧ c < 2 ^ 502) (h : inM c k o = true) : ∃ T, o = some T ∧ Cn T c k:=by
  match o with
  | none => cases h
  | some T =>
    unfold inM at h
    rw [Bool.and_eq_true] at h
    have h1:=of_decide_eq_true h.1
    have h2:=of_decide_eq_true h.2
    have hw : hiC T ≤ loC T + 2:=by
      unfold hiC loC
      rw [cdv_le (by omega)]
      have:=Int.lt_ediv_add_one_mul_self (T - 262144) (show (0 : Int) < 4294967296 by omega)
      omega
    have hp:=pow2_pos (500 - k)
    have e5 : (2 : Int) ^ 502 = 2 ^ (k + 2) * 2 ^ (500 - k):=by rw [← Int.pow_add]; congr 1; omega
    have b1 : loC T < 2 ^ (k + 2):=by
      refine Int.lt_of_mul_lt_mul_right (a:=2 ^ (500 - k)) ?_ (by omega)
      rw [← e5]
      omega
    have b2 : 0 ≤ hiC T:=by
      refine Int.not_lt.1 fun h9 => ?_
      have:=Int.mul_neg_of_neg_of_pos h9 hp
      omega
    have b3 : -2 ≤ loC T:=by omega
    have e6 : (2 : Int) ^ (k + 3) = 2 ^ (k + 2) * 2:=by rw [← Int.pow_succ]
    have b4 : (4 : Int) ≤ 2 ^ (k + 2):=by
      have:=pow2_pos k
      rw [Int.pow_succ, Int.pow_succ]
      omega
    have eP : (((2 : Nat) ^ (k + 3) : Nat) : Int) = 2 ^ (k + 3):=by simp
    refine ⟨T, rfl, ?_, ?_, ?_, ?_, hw⟩
    · unfold AbP; omega
    · unfold AbP; omega
    · rw [dq_up9 _ (show k ≤ 500 by omega)]
      exact (dq_le_iff _ _ _).2 (by omega)
    · rw [dq_up9 (hiC T) (show k ≤ 500 by omega)]
      exact (dq_le_iff _ _ _).2 h2
theorem cn_ln {k : Nat} (hk : k < 200) : ∃ T, lnT (k + 32) = some T ∧ Cn T cLn k:=
 cn_of hk ⟨by decide +kernel, by decide +kernel⟩ (List.all_eq_true.1 lnm_all k (List.mem_range.2 hk))
theorem lnc_all : (List.range 200).all (fun v => decide (lnL v * 2 ^ (500 - v) ≤ cLn - 1048576) && decide (cLn + 1048576 ≤ lnH v * 2 ^ (500 - v))) = true:=by decide +kernel
theorem lnc {v : Nat} (hv : v < 200) : UpE (dq (lnL v) (-(v : Int))) 2 ∧ LoE 2 (dq (lnH v) (-(v : Int))):=by
 have h:=List.all_eq_true.1 lnc_all v (List.mem_range.2 hv)
 rw [Bool.and_eq_true] at h
 have h1:=of_decide_eq_true h.1
 have h2:=of_decide_eq_true h.2
 rw [dq_up9 _ (show v ≤ 500 by omega), dq_up9 (lnH v) (show v ≤ 500 by omega)]
 exact ⟨ln_up.mono ((dq_le_iff _ _ _).2 h1), ln_lo.mono ((dq_le_iff _ _ _).2 h2) (by decide +kernel)⟩

theorem aenclR_any (a : Int) (d : Nat) (a2 : Int) (q : Nat) (k : Int) (vx vy : Value) (w : World) (hx : IsP w vx a d) (hy : IsP w vy a2 q) (la : zl a ≤ 800) (ld : len d ≤ 800) (hd : 0 < d) (lb : zl a2 ≤ 800) (lq : len q ≤ 800) (hq : 0 < q) (hw : workB k = true) (hT : Tab w) :
  Calls Tryz.prog 100 #[vx, vy, .int .i64 k, .func (.func 101) #[] #[], .func (.func 102) #[] #[]] w (RetEn w (Rat.divInt a (d : Int)) (Rat.divInt a2 (q : Int)) k):=by
 obtain ⟨wp, wk1, wk2⟩:=work_perm hw
 obtain ⟨A, c, B, i, rfl, _, _, _⟩:=hx.form
 obtain ⟨A', c', B', i', rfl, _, _, _⟩:=hy.form
 have L0:=((Lq.mk0 w).q hy).q hx
 have y4:=zl_neg a2
 have y1:=zl_cut a d hd k
 have y2:=zl_cut (-a2) q hq k
 rw [← Rat.neg_divInt] at y2
 have f1:=fun v W h (hW : Below w.heap.size w W) => gfloorR_any a d k v W h (by omega) (by omega) hd (by omega) (by omega) (hT.mono hW)
 have f2:=fun v W h (hW : Below w.heap.size w W) => gceilR_any a2 q k v W h (by omega) (by omega) hq (by omega) (by omega) (hT.mono hW)
 obtain ⟨lo, hlo⟩:=nm9 (Rat.divInt a (d : Int))
 obtain ⟨hi, hhi⟩:=nm9 (Rat.divInt a2 (q : Int))
 rw [hlo] at f1 y1 ⊢
 rw [hhi] at f2 y2 ⊢
 have y3:=zl_neg (cutQ (-hi) k)
 have y5:=zl_mk (cutQ lo k) (-k)
 have y6:=zl_mk (-(cutQ (-hi) k)) (-k)
 rw [(g_yes wp (cutQ lo k)).1, (g_yes wp (cutQ lo k)).2.1, (g_yes wp (cutQ lo k)).2.2] at f1
 rw [(g_yes wp (-(cutQ (-hi) k))).1, (g_yes wp (-(cutQ (-hi) k))).2.1, (g_yes wp (-(cutQ (-hi) k))).2.2] at f2
 have hsm:=Hd9 (fun (q1 : mkR (cutQ lo k) (-k) = 0) (q2 : mkR (-(cutQ (-hi) k)) (-k) = 0) v W h => (show Calls Tryz.prog 51 #[v] W (RetB W (enB lo hi k)) from asmall_any (enM lo k) (enE lo k) (upM hi k) (upE hi k) v W h (by unfold enM; omega) (by unfold upM; omega) (by have:=dv_bound (mk_ok q1); unfold enE; omega) (by have:=dv_bound (mk_ok q2); unfold upE; omega) (mk_ok q1) (mk_ok q2)))
 have HRT:=Hd9 (show RetEn w lo hi k = if mkR (cutQ lo k) (-k) = 0 ∧ mkR (-(cutQ (-hi) k)) (-k) = 0 ∧ enB lo hi k = true then RetIE w (enM lo k) (enE lo k) (upM hi k) (upE hi k) 0 else RetIE w 0 0 0 0 3 from by unfold RetEn; rw [if_pos hw])
 unfold enM enE upM upE at hsm HRT
 have H1:=Hd9 f1
 have H2:=Hd9 f2
 clear f1 f2 hlo hhi y1 y2 y3 y4 y5 y6 wp hx hy la ld hd lb lq hq hw hT wk1 wk2
 generalize mkR (cutQ lo k) (-k) = R1 at *
 generalize mkR (-(cutQ (-hi) k)) (-k) = R2 at *
 generalize mkM (cutQ lo k) (-k) = M at *
 generalize mkE (cutQ lo k) (-k) = E at *
 generalize mkM (-(cutQ (-hi) k)) (-k) = N at *
 generalize mkE (-(cutQ (-hi) k)) (-k) = G at *
 generalize enB lo hi k = b at *
 cases hr1 : decide (R1 = 0)
 ·replace hr1:=of_decide_eq_false hr1
  have e1 : (R1 != 0) = true:=by simpa using hr1
  have e2 : (R1 == 0) = false:=by simpa using hr1
  clear hsm
  go_enter Tryz.func100, Tryz.ntmps100
  go_wp2_with fail
  have L:=(((L0.varQ (w.heap.size) (by simp) (ng a) A B (zl a) c (len d) i).varQ (w.heap.size + 1) (by simp) (ng a2) A' B' (zl a2) c' (len q) i').varI (w.heap.size + 2) (by simp) false none 0 0 0 false none 0 0 0)
  obtain ⟨gr, hgr⟩:=nm9 (w.heap.size + 1 + 1)
  have hgr2 : w.heap.size + 2 = gr:=hgr
  rw [hgr2] at L
  rw [hgr]
  have hgw : w.heap.size + 1 < gr:=by omega
  clear hgr hgr2
  obtain ⟨cel20,cel21,cel22⟩:=L.tl.tl.b0.a3
  go_wp2_with fail
  refine (H1.out _ _ (L.getQ (v:=.agg #[.bool (ng a), .slice A (zl a) c, .slice B (len d) i]) (a:=a) (d:=d) (by simp)) L.below).mono ?_
  rintro e w1 ⟨vv, rfl, id, be⟩
  clear cel20 cel21 cel22
  obtain ⟨A8, c8, rfl, _, in9⟩:=id.form
  replace L:=(L.step be).n in9
  clear be id in9
  have hlg8:=L.b0.lt
  replace L:=L.varD w1.heap.size rfl (ng M) A8 (zl M) c8 E
  obtain ⟨cel20,cel21,cel22⟩:=L.tl.tl.b0.a3
  go_wp2_with fail
  obtain ⟨g8, hg⟩:=nm9 (w1.heap.size)
  rw [hg] at L hlg8 ⊢
  clear hg
  refine (H2.out _ _ (L.getQ (v:=.agg #[.bool (ng a2), .slice A' (zl a2) c', .slice B' (len q) i']) (a:=a2) (d:=q) (by simp)) L.below).mono ?_
  rintro e w2 ⟨vv, rfl, id, be⟩
  clear cel20 cel21 cel22
  obtain ⟨A9, c9, rfl, _, in9⟩:=id.form
  replace L:=(L.step be).n in9
  clear be id in9
  have hl9:=L.b0.lt
  replace L:=L.varD w2.heap.size rfl (ng N) A9 (zl N) c9 G
  obtain ⟨cel00,cel01,cel02⟩:=L.b0.a3
  obtain ⟨cel10,cel11,cel12⟩:=L.tl.b0.a3
  replace L:=L.varI (w2.heap.size + 1) (by simp) (ng M) A8 (zl M) c8 E (ng N) A9 (zl N) c9 G
  obtain ⟨cem00,cem01,cem02,cem03,cem04,cem05⟩:=L.b0.a6
  have R:=L.pick [(gr, 28, #[.bool false, .slice none 0 0, .int .i64 0, .bool false, .slice none 0 0, .int .i64 0])] (by simp)
  obtain ⟨r0,r1,r2,r3,r4,r5⟩:=R.b0.a6
  obtain ⟨s0,s1,s2,s3,s4,s5⟩:=R.b0.f6
  go_wp2_with fail
  have LP:=R.putI (by omega) (by simp) false none 0 0 0 false none 0 0 0
  have k0':=LP.b0.c60
  have k1':=LP.b0.c61
  have k2':=LP.b0.c62
  have k3':=LP.b0.c63
  have k4':=LP.b0.c64
  have k5':=LP.b0.c65
  unfold put6 at k0' k1' k2' k3' k4' k5'
  exact bodyPost_ret (v:=.tuple #[.agg #[.bool false, .slice none 0 0, .int .i64 0, .bool false, .slice none 0 0, .int .i64 0], .int .i64 3]) (by simp [results, Tryz.results100, go_sem, k0', k1', k2', k3', k4', k5']) rfl (by rw [HRT.out, if_neg (fun h => hr1 h.1)]; exact ⟨_, rfl, isI_zero _, LP.below⟩)
 ·obtain rfl:=of_decide_eq_true hr1
  have HR1:=Hd9 (rfl : (0 : Int) = 0)
  clear hr1
  cases hr2 : decide (R2 = 0)
  ·replace hr2:=of_decide_eq_false hr2
   have e1 : (R2 != 0) = true:=by simpa using hr2
   have e2 : (R2 == 0) = false:=by simpa using hr2
   clear hsm
   go_enter Tryz.func100, Tryz.ntmps100
   go_wp2_with fail
   have L:=(((L0.varQ (w.heap.size) (by simp) (ng a) A B (zl a) c (len d) i).varQ (w.heap.size + 1) (by simp) (ng a2) A' B' (zl a2) c' (len q) i').varI (w.heap.size + 2) (by simp) false none 0 0 0 false none 0 0 0)
   obtain ⟨gr, hgr⟩:=nm9 (w.heap.size + 1 + 1)
   have hgr2 : w.heap.size + 2 = gr:=hgr
   rw [hgr2] at L
   rw [hgr]
   have hgw : w.heap.size + 1 < gr:=by omega
   clear hgr hgr2
   obtain ⟨cel20,cel21,cel22⟩:=L.tl.tl.b0.a3
   go_wp2_with fail
   refine (H1.out _ _ (L.getQ (v:=.agg #[.bool (ng a), .slice A (zl a) c, .slice B (len d) i]) (a:=a) (d:=d) (by simp)) L.below).mono ?_
   rintro e w1 ⟨vv, rfl, id, be⟩
   clear cel20 cel21 cel22
   obtain ⟨A8, c8, rfl, _, in9⟩:=id.form
   replace L:=(L.step be).n in9
   clear be id in9
   have hlg8:=L.b0.lt
   replace L:=L.varD w1.heap.size rfl (ng M) A8 (zl M) c8 E
   obtain ⟨cel20,cel21,cel22⟩:=L.tl.tl.b0.a3
   go_wp2_with fail
   obtain ⟨g8, hg⟩:=nm9 (w1.heap.size)
   rw [hg] at L hlg8 ⊢
   clear hg
   refine (H2.out _ _ (L.getQ (v:=.agg #[.bool (ng a2), .slice A' (zl a2) c', .slice B' (len q) i']) (a:=a2) (d:=q) (by simp)) L.below).mono ?_
   rintro e w2 ⟨vv, rfl, id, be⟩
   clear cel20 cel21 cel22
   obtain ⟨A9, c9, rfl, _, in9⟩:=id.form
   replace L:=(L.step be).n in9
   clear be id in9
   have hl9:=L.b0.lt
   replace L:=L.varD w2.heap.size rfl (ng N) A9 (zl N) c9 G
   obtain ⟨cel00,cel01,cel02⟩:=L.b0.a3
   obtain ⟨cel10,cel11,cel12⟩:=L.tl.b0.a3
   replace L:=L.varI (w2.heap.size + 1) (by simp) (ng M) A8 (zl M) c8 E (ng N) A9 (zl N) c9 G
   obtain ⟨cem00,cem01,cem02,cem03,cem04,cem05⟩:=L.b0.a6
   have R:=L.pick [(gr, 28, #[.bool false, .slice none 0 0, .int .i64 0, .bool false, .slice none 0 0, .int .i64 0])] (by simp)
   obtain ⟨r0,r1,r2,r3,r4,r5⟩:=R.b0.a6
   obtain ⟨s0,s1,s2,s3,s4,s5⟩:=R.b0.f6
   go_wp2_with fail
   have LP:=R.putI (by omega) (by simp) false none 0 0 0 false none 0 0 0
   have k0':=LP.b0.c60
   have k1':=LP.b0.c61
   have k2':=LP.b0.c62
   have k3':=LP.b0.c63
   have k4':=LP.b0.c64
   have k5':=LP.b0.c65
   unfold put6 at k0' k1' k2' k3' k4' k5'
   exact bodyPost_ret (v:=.tuple #[.agg #[.bool false, .slice none 0 0, .int .i64 0, .bool false, .slice none 0 0, .int .i64 0], .int .i64 3]) (by simp [results, Tryz.results100, go_sem, k0', k1', k2', k3', k4', k5']) rfl (by rw [HRT.out, if_neg (fun h => hr2 h.2.1)]; exact ⟨_, rfl, isI_zero _, LP.below⟩)
  ·obtain rfl:=of_decide_eq_true hr2
   have HR2:=Hd9 (rfl : (0 : Int) = 0)
   have HS:=Hd9 (hsm.out rfl rfl)
   clear hr2 hsm
   go_enter Tryz.func100, Tryz.ntmps100
   go_wp2_with fail
   have L:=(((L0.varQ (w.heap.size) (by simp) (ng a) A B (zl a) c (len d) i).varQ (w.heap.size + 1) (by simp) (ng a2) A' B' (zl a2) c' (len q) i').varI (w.heap.size + 2) (by simp) false none 0 0 0 false none 0 0 0)
   obtain ⟨gr, hgr⟩:=nm9 (w.heap.size + 1 + 1)
   have hgr2 : w.heap.size + 2 = gr:=hgr
   rw [hgr2] at L
   rw [hgr]
   have hgw : w.heap.size + 1 < gr:=by omega
   clear hgr hgr2
   obtain ⟨cel20,cel21,cel22⟩:=L.tl.tl.b0.a3
   go_wp2_with fail
   refine (H1.out _ _ (L.getQ (v:=.agg #[.bool (ng a), .slice A (zl a) c, .slice B (len d) i]) (a:=a) (d:=d) (by simp)) L.below).mono ?_
   rintro e w1 ⟨vv, rfl, id, be⟩
   clear cel20 cel21 cel22
   obtain ⟨A8, c8, rfl, _, in9⟩:=id.form
   replace L:=(L.step be).n in9
   clear be id in9
   have hlg8:=L.b0.lt
   replace L:=L.varD w1.heap.size rfl (ng M) A8 (zl M) c8 E
   obtain ⟨cel20,cel21,cel22⟩:=L.tl.tl.b0.a3
   go_wp2_with fail
   obtain ⟨g8, hg⟩:=nm9 (w1.heap.size)
   rw [hg] at L hlg8 ⊢
   clear hg
   refine (H2.out _ _ (L.getQ (v:=.agg #[.bool (ng a2), .slice A' (zl a2) c', .slice B' (len q) i']) (a:=a2) (d:=q) (by simp)) L.below).mono ?_
   rintro e w2 ⟨vv, rfl, id, be⟩
   clear cel20 cel21 cel22
   obtain ⟨A9, c9, rfl, _, in9⟩:=id.form
   replace L:=(L.step be).n in9
   clear be id in9
   have hl9:=L.b0.lt
   replace L:=L.varD w2.heap.size rfl (ng N) A9 (zl N) c9 G
   obtain ⟨cel00,cel01,cel02⟩:=L.b0.a3
   obtain ⟨cel10,cel11,cel12⟩:=L.tl.b0.a3
   replace L:=L.varI (w2.heap.size + 1) (by simp) (ng M) A8 (zl M) c8 E (ng N) A9 (zl N) c9 G
   obtain ⟨cem00,cem01,cem02,cem03,cem04,cem05⟩:=L.b0.a6
   go_wp2_with fail
   refine (HS.out _ _ (isI_n (s:=.slice A8 (zl M) c8) (t:=.slice A9 (zl N) c9) (L.getN (by simp)) (L.getN (by simp)))).mono ?_
   rintro e w3 ⟨rfl, be⟩
   clear cem00 cem01 cem02 cem03 cem04 cem05 cel00 cel01 cel02 cel10 cel11 cel12
   replace L:=L.step be
   clear be
   cases b
   ·skip
    obtain ⟨cel00,cel01,cel02,cel03,cel04,cel05⟩:=L.b0.a6
    have R:=L.pick [(gr, 28, #[.bool false, .slice none 0 0, .int .i64 0, .bool false, .slice none 0 0, .int .i64 0])] (by simp)
    obtain ⟨r0,r1,r2,r3,r4,r5⟩:=R.b0.a6
    obtain ⟨s0,s1,s2,s3,s4,s5⟩:=R.b0.f6
    go_wp2_with fail
    have LP:=R.putI (by omega) (by simp) false none 0 0 0 false none 0 0 0
    have k0':=LP.b0.c60
    have k1':=LP.b0.c61
    have k2':=LP.b0.c62
    have k3':=LP.b0.c63
    have k4':=LP.b0.c64
    have k5':=LP.b0.c65
    unfold put6 at k0' k1' k2' k3' k4' k5'
    exact bodyPost_ret (v:=.tuple #[.agg #[.bool false, .slice none 0 0, .int .i64 0, .bool false, .slice none 0 0, .int .i64 0], .int .i64 3]) (by simp [results, Tryz.results100, go_sem, k0', k1', k2', k3', k4', k5']) rfl (by rw [HRT.out, if_neg (fun h => (by cases h.2.2))]; exact ⟨_, rfl, isI_zero _, LP.below⟩)
   ·skip
    obtain ⟨cel00,cel01,cel02,cel03,cel04,cel05⟩:=L.b0.a6
    have R:=L.pick [(gr, 28, #[.bool false, .slice none 0 0, .int .i64 0, .bool false, .slice none 0 0, .int .i64 0])] (by simp)
    obtain ⟨r0,r1,r2,r3,r4,r5⟩:=R.b0.a6
    obtain ⟨s0,s1,s2,s3,s4,s5⟩:=R.b0.f6
    go_wp2_with fail
    have LP:=R.putI (by omega) (by simp) (ng M) A8 (zl M) c8 E (ng N) A9 (zl N) c9 G
    have k0':=LP.b0.c60
    have k1':=LP.b0.c61
    have k2':=LP.b0.c62
    have k3':=LP.b0.c63
    have k4':=LP.b0.c64
    have k5':=LP.b0.c65
    unfold put6 at k0' k1' k2' k3' k4' k5'
    exact bodyPost_ret (v:=.tuple #[.agg #[.bool (ng M), .slice A8 (zl M) c8, .int .i64 E, .bool (ng N), .slice A9 (zl N) c9, .int .i64 G], .int .i64 0]) (by simp [results, Tryz.results100, go_sem, k0', k1', k2', k3', k4', k5']) rfl (by rw [HRT.out, if_pos ⟨HR1.out, HR2.out, by first | trivial | rfl⟩]; exact ⟨_, rfl, isI_n (LP.getN (by simp)) (LP.getN (by simp)), LP.below⟩)
def RowI (w : World) (v : Value) (l : List (Int × Int × Int × Int)) : Prop:=∃ g c, v = .slice (some ⟨g, 0, none⟩) l.length c ∧ g < w.heap.size ∧ ∀ (j : Nat) (p : Int × Int × Int × Int), l[j]? = some p → ∃ A c B d, w.cell? ⟨g, 6 * j, none⟩ = some (.bool (ng p.1)) ∧ w.cell? ⟨g, 6 * j + 1, none⟩ = some (.slice A (zl p.1) c) ∧ w.cell? ⟨g, 6 * j + 2, none⟩ = some (.int .i64 p.2.1) ∧ w.cell? ⟨g, 6 * j + 3, none⟩ = some (.bool (ng p.2.2.1)) ∧ w.cell? ⟨g, 6 * j + 4, none⟩ = some (.slice B (zl p.2.2.1) d) ∧ w.cell? ⟨g, 6 * j + 5, none⟩ = some (.int .i64 p.2.2.2) ∧ IsN w (.slice A (zl p.1) c) p.1.natAbs ∧ IsN w (.slice B (zl p.2.2.1) d) p.2.2.1.natAbs
theorem RowI.at {w w' : World} {g c n : Nat} {l : List (Int × Int × Int × Int)} (h : RowI w (.slice (some ⟨g, 0, none⟩) n c) l) (hb : Below w.heap.size w w') {j : Nat} {p : Int × Int × Int × Int} (hp : l[j]? = some p) : ∃ A c B d, w'.cell? ⟨g, 6 * j, none⟩ = some (.bool (ng p.1)) ∧ w'.cell? ⟨g, 6 * j + 1, none⟩ = some (.slice A (zl p.1) c) ∧ w'.cell? ⟨g, 6 * j + 2, none⟩ = some (.int .i64 p.2.1) ∧ w'.cell? ⟨g, 6 * j + 3, none⟩ = some (.bool (ng p.2.2.1)) ∧ w'.cell? ⟨g, 6 * j + 4, none⟩ = some (.slice B (zl p.2.2.1) d) ∧ w'.cell? ⟨g, 6 * j + 5, none⟩ = some (.int .i64 p.2.2.2) ∧ IsN w' (.slice A (zl p.1) c) p.1.natAbs ∧ IsN w' (.slice B (zl p.2.2.1) d) p.2.2.1.natAbs:=by
 obtain ⟨g', c', r, hg, h⟩:=h
 simp only [Value.slice.injEq, Option.some.injEq, Addr.mk.injEq, and_true] at r
 obtain ⟨rfl, _, _⟩:=r
 obtain ⟨A, c, B, d, h0, h1, h2, h3, h4, h5, h6, h7⟩:=h j p hp
 exact ⟨A, c, B, d, (hb.cell (p:=⟨g, 6 * j, none⟩) hg).trans h0, (hb.cell (p:=⟨g, 6 * j + 1, none⟩) hg).trans h1, (hb.cell (p:=⟨g, 6 * j + 2, none⟩) hg).trans h2, (hb.cell (p:=⟨g, 6 * j + 3, none⟩) hg).trans h3, (hb.cell (p:=⟨g, 6 * j + 4, none⟩) hg).trans h4, (hb.cell (p:=⟨g, 6 * j + 5, none⟩) hg).trans h5, h6.mono hb, h7.mono hb⟩
def qtA (m e n f : Int) : Int:=if m = 0 then 0 else (Rat.divInt m n).num * 2 ^ (e - f).toNat
def qtD (m e n f : Int) : Nat:=if m = 0 then 1 else (Rat.divInt m n).den * 2 ^ (f - e).toNat
theorem qt_pos (m e n f : Int) : 0 < qtD m e n f:=by
 unfold qtD
 split
 ·omega
 ·exact Nat.mul_pos (Rat.den_pos _) (Nat.pow_pos (by omega))
theorem dq_pow (m e : Int) : dq m e = (m : Rat) * dq 1 e:=dq_scale m e
theorem dq_one_sub (e f : Int) : dq 1 (e - f) * dq 1 f = dq 1 e:=by
 rw [← dq_mul, Int.mul_one]
 congr 1
 omega
theorem divInt_mul_r (a : Int) (d : Nat) (x y : Nat) (hx : 0 < x) (hy : 0 < y) (hd : 0 < d) : Rat.divInt (a * (x : Int)) ((d * y : Nat) : Int) = Rat.divInt a (d : Int) * Rat.divInt (x : Int) (y : Int):=by
 rw [Rat.divInt_mul_divInt]
 congr 1
theorem qt_val {m e n f : Int} (hn : n ≠ 0) : Rat.divInt (qtA m e n f) (qtD m e n f : Int) = dq m e / dq n f:=by
 have hn0 : (n : Rat) ≠ 0:=fun h => hn (Rat.intCast_eq_zero_iff.1 h)
 have hp:=dq_pos f
 have hpn : dq 1 f ≠ 0:=fun h => by rw [h] at hp; exact Rat.not_le.2 hp Rat.le_refl
 by_cases h0 : m = 0
 ·unfold qtA qtD
  rw [if_pos h0, if_pos h0, h0, dq_pow 0 e, Rat.intCast_zero, Rat.zero_mul, Rat.div_def, Rat.zero_mul]
  rfl
 ·unfold qtA qtD
  rw [if_neg h0, if_neg h0]
  have e1 : (2 : Int) ^ (e - f).toNat = ((2 ^ (e - f).toNat : Nat) : Int):=(cast2 _).symm
  rw [e1, divInt_mul_r _ _ _ _ (Nat.pow_pos (by omega)) (Nat.pow_pos (by omega)) (Rat.den_pos _), Rat.num_divInt_den]
  have e2 : Rat.divInt ((2 ^ (e - f).toNat : Nat) : Int) ((2 ^ (f - e).toNat : Nat) : Int) = dq 1 (e - f):=by
   unfold dq
   rw [Int.one_mul, cast2, show -(e - f) = f - e from by omega]
  rw [e2, dq_pow m e, dq_pow n f, ← dq_one_sub e f, Rat.div_def, Rat.inv_mul_rev]
  have e3 : Rat.divInt m n = (m : Rat) * (n : Rat)⁻¹:=by rw [← Rat.div_def]; exact Rat.divInt_eq_div m n
  rw [e3]
  have e4 : dq 1 f * (dq 1 f)⁻¹ = 1:=Rat.mul_inv_cancel _ hpn
  rw [show (m : Rat) * (dq 1 (e - f) * dq 1 f) * ((dq 1 f)⁻¹ * (n : Rat)⁻¹) = (m : Rat) * (dq 1 (e - f) * (dq 1 f * (dq 1 f)⁻¹) * (n : Rat)⁻¹) from by simp only [Rat.mul_assoc], e4, Rat.mul_one, Rat.mul_assoc, Rat.mul_comm (n : Rat)⁻¹]
theorem qt_low {m n : Int} (hn : n ≠ 0) : zl (Rat.divInt m n).num ≤ zl m ∧ len (Rat.divInt m n).den ≤ zl n:=by
 obtain ⟨e1, e2⟩:=divInt_pair m n hn
 constructor
 ·unfold zl
  rw [e1]
  exact len_mono (by rw [sg_abs]; exact Nat.div_le_self _ _)
 ·unfold zl
  rw [e2]
  exact len_mono (Nat.div_le_self _ _)
theorem qt_small {m e n f : Int} (hn : n ≠ 0) (lm : zl m ≤ 140) (ln : zl n ≤ 140) (he : -4500 ≤ e ∧ e ≤ 4500) (hf : -4500 ≤ f ∧ f ≤ 4500) : zl (qtA m e n f) ≤ 800 ∧ len (qtD m e n f) ≤ 800:=by
 obtain ⟨h1, h2⟩:=qt_low (m:=m) hn
 unfold qtA qtD
 constructor
 ·split
  ·rw [zl_zero]; omega
  ·have:=zl_two (Rat.divInt m n).num (e - f).toNat
   omega
 ·split
  ·have:=len_le1 (show 1 < 4294967296 by omega)
   omega
  ·have h3:=len_mul (Rat.divInt m n).den (2 ^ (f - e).toNat)
   have h4:=len_two (f - e).toNat
   omega

theorem anum_any (z e : Int) (vx : Value) (w : World) (hx : IsZ w vx z) (lz : zl z ≤ 1000) (he : -20000 ≤ e ∧ e ≤ 20000) :
  Calls Tryz.prog 233 #[vx, .int .i64 e] w (RetZ w (z * 2 ^ e.toNat)):=by
 obtain ⟨A, c, rfl, _⟩:=hx.form
 have L0:=(Lq.mk0 w).z hx
 have HR:=Hd9 (fun v W h => drat_any z e v W h (by omega) (by omega))
 have hfd : ∀ (x : Bool) (E F : Option Addr) (n1 n2 n3 n4 : Nat) (W : World), (Instr.field 57 (.agg #[.bool x, .slice E n1 n2, .slice F n3 n4]) 0).run Tryz.prog W = .ok (.agg #[.bool x, .slice E n1 n2]) W:=fun _ _ _ _ _ _ _ _ => by kernel_rfl
 generalize z * 2 ^ e.toNat = a at *
 generalize 2 ^ (-e).toNat = d at *
 clear hx lz he
 go_enter Tryz.func233, Tryz.ntmps233
 go_wp2_with fail
 have L:=((L0.varZ (w.heap.size) (by simp) (ng z) A (zl z) c).varZ (w.heap.size + 1) (by simp) false none 0 0)
 obtain ⟨c00,c01⟩:=L.b0.a2
 obtain ⟨f00,f01⟩:=L.b0.f2
 obtain ⟨c10,c11⟩:=L.tl.b0.a2
 (try go_wp2_with fail)
 refine (HR.out _ _ (isD_z (L.getZ (v:=.agg #[.bool (ng z), .slice A (zl z) c]) (by simp)))).mono ?_
 rintro e w1 ⟨vq, rfl, iq, be⟩
 clear c00 f00 c01 f01 c10 c11
 obtain ⟨A9, c9, B9, k9, rfl, iz9, _, _⟩:=iq.form
 replace L:=(L.step be).z iz9
 clear be iq iz9
 obtain ⟨c00,c01⟩:=L.b0.a2
 obtain ⟨f00,f01⟩:=L.b0.f2
 obtain ⟨c10,c11⟩:=L.tl.b0.a2
 (try go_wp2_with fail)
 have LP:=L.putZ (by omega) (by first | (simp; done) | (simp; omega)) (ng a) A9 (zl a) c9
 obtain ⟨k0,k1⟩:=LP.b0.a2
 unfold put2 at k0 k1
 exact bodyPost_ret (v:=.agg #[.bool (ng a), .slice A9 (zl a) c9]) (by simp [results, Tryz.results233, go_sem, k0, k1]) rfl ⟨_, rfl, LP.getZ (by simp), LP.below⟩
theorem absign_any (m e n f n2 f2 : Int) (vx vy vz : Value) (w : World) (hx : IsD w vx m e) (hy : IsD w vy n f) (hz : IsD w vz n2 f2) (lm : zl m ≤ 1000) :
  Calls Tryz.prog 219 #[vx, vy, vz] w (RetD8 w (if m < 0 then n else n2) (if m < 0 then f else f2)):=by
 obtain ⟨A, c, rfl, _, hn1⟩:=hx.form
 obtain ⟨B, d, rfl, _, hn2⟩:=hy.form
 obtain ⟨C, h, rfl, _, hn3⟩:=hz.form
 have L0:=(((Lq.mk0 w).n hn3).n hn2).n hn1
 have hs:=fun v W h => dsign_any m e v W h (by omega)
 have hc : cmpI m 0 < 0 ↔ m < 0:=by unfold cmpI; (repeat' split) <;> omega
 obtain ⟨x, hx9⟩:=nm9 (cmpI m 0)
 rw [hx9] at hs hc
 have HS:=Hd9 hs
 clear hs hx9 hx hy hz hn1 hn2 hn3 lm
 by_cases q : m < 0
 ·rw [if_pos q, if_pos q]
  have b1 : decide (x < 0) = true:=decide_eq_true (by omega)
  clear hc q
  go_enter Tryz.func219, Tryz.ntmps219
  go_wp2_with fail
  have L:=((((L0.varD (w.heap.size) (by simp) (ng m) A (zl m) c e).varD (w.heap.size + 1) (by simp) (ng n) B (zl n) d f).varD (w.heap.size + 2) (by simp) (ng n2) C (zl n2) h f2).varD (w.heap.size + 3) (by simp) false none 0 0 0)
  obtain ⟨gr, hgr⟩:=nm9 (w.heap.size + 1 + 1 + 1)
  have hgr2 : w.heap.size + 3 = gr:=hgr
  obtain ⟨gz, hgz⟩:=nm9 (w.heap.size + 1 + 1)
  have hgz2 : w.heap.size + 2 = gz:=hgz
  rw [hgr2, hgz2] at L
  rw [hgr, hgz]
  have hgr3 : w.heap.size + 2 < gr:=by omega
  have hgz3 : w.heap.size + 1 < gz:=by omega
  have hgr4 : gz < gr:=by omega
  clear hgr hgr2 hgz hgz2
  obtain ⟨c00,c01,c02⟩:=L.b0.a3
  obtain ⟨f00,f01,f02⟩:=L.b0.f3
  obtain ⟨c10,c11,c12⟩:=L.tl.b0.a3
  obtain ⟨c20,c21,c22⟩:=L.tl.tl.b0.a3
  obtain ⟨c30,c31,c32⟩:=L.tl.tl.tl.b0.a3
  (try go_wp2_with fail)
  refine (HS.out _ _ (isD_n (m:=m) (e:=e) (s:=.slice A (zl m) c) (L.getN (by simp)))).mono ?_
  rintro e w1 ⟨rfl, be⟩
  clear c00 f00 c01 f01 c02 f02 c10 c11 c12 c20 c21 c22 c30 c31 c32
  replace L:=L.step be
  clear be
  obtain ⟨c00,c01,c02⟩:=L.b0.a3
  obtain ⟨f00,f01,f02⟩:=L.b0.f3
  obtain ⟨c10,c11,c12⟩:=L.tl.b0.a3
  obtain ⟨c20,c21,c22⟩:=L.tl.tl.b0.a3
  obtain ⟨c30,c31,c32⟩:=L.tl.tl.tl.b0.a3
  (try go_wp2_with fail)
  have LP:=L.putD (by omega) (by first | (simp; done) | (simp; omega)) (ng n) B (zl n) d (f)
  obtain ⟨k0,k1,k2⟩:=LP.b0.a3
  unfold put3 at k0 k1 k2
  exact bodyPost_ret (v:=.agg #[.bool (ng n), .slice B (zl n) d, .int .i64 (f)]) (by simp [results, Tryz.results219, go_sem, k0, k1, k2]) rfl ⟨_, rfl, isD_n (LP.getN (by simp)), LP.below⟩
 ·rw [if_neg q, if_neg q]
  have b1 : decide (x < 0) = false:=decide_eq_false (by omega)
  clear hc q
  go_enter Tryz.func219, Tryz.ntmps219
  go_wp2_with fail
  have L:=((((L0.varD (w.heap.size) (by simp) (ng m) A (zl m) c e).varD (w.heap.size + 1) (by simp) (ng n) B (zl n) d f).varD (w.heap.size + 2) (by simp) (ng n2) C (zl n2) h f2).varD (w.heap.size + 3) (by simp) false none 0 0 0)
  obtain ⟨gr, hgr⟩:=nm9 (w.heap.size + 1 + 1 + 1)
  have hgr2 : w.heap.size + 3 = gr:=hgr
  obtain ⟨gz, hgz⟩:=nm9 (w.heap.size + 1 + 1)
  have hgz2 : w.heap.size + 2 = gz:=hgz
  rw [hgr2, hgz2] at L
  rw [hgr, hgz]
  have hgr3 : w.heap.size + 2 < gr:=by omega
  have hgz3 : w.heap.size + 1 < gz:=by omega
  have hgr4 : gz < gr:=by omega
  clear hgr hgr2 hgz hgz2
  obtain ⟨c00,c01,c02⟩:=L.b0.a3
  obtain ⟨f00,f01,f02⟩:=L.b0.f3
  obtain ⟨c10,c11,c12⟩:=L.tl.b0.a3
  obtain ⟨c20,c21,c22⟩:=L.tl.tl.b0.a3
  obtain ⟨c30,c31,c32⟩:=L.tl.tl.tl.b0.a3
  (try go_wp2_with fail)
  refine (HS.out _ _ (isD_n (m:=m) (e:=e) (s:=.slice A (zl m) c) (L.getN (by simp)))).mono ?_
  rintro e w1 ⟨rfl, be⟩
  clear c00 f00 c01 f01 c02 f02 c10 c11 c12 c20 c21 c22 c30 c31 c32
  replace L:=L.step be
  clear be
  obtain ⟨c00,c01,c02⟩:=L.b0.a3
  obtain ⟨f00,f01,f02⟩:=L.b0.f3
  obtain ⟨c10,c11,c12⟩:=L.tl.b0.a3
  obtain ⟨c20,c21,c22⟩:=L.tl.tl.b0.a3
  obtain ⟨c30,c31,c32⟩:=L.tl.tl.tl.b0.a3
  (try go_wp2_with fail)
  have LP:=L.putD (by omega) (by first | (simp; done) | (simp; omega)) (ng n2) C (zl n2) h (f2)
  obtain ⟨k0,k1,k2⟩:=LP.b0.a3
  unfold put3 at k0 k1 k2
  exact bodyPost_ret (v:=.agg #[.bool (ng n2), .slice C (zl n2) h, .int .i64 (f2)]) (by simp [results, Tryz.results219, go_sem, k0, k1, k2]) rfl ⟨_, rfl, isD_n (LP.getN (by simp)), LP.below⟩
theorem aquot_any (m e n f : Int) (vx vy : Value) (w : World) (hx : IsD w vx m e) (hy : IsD w vy n f) (lm : zl m ≤ 140) (ln : zl n ≤ 140) (he : -4500 ≤ e ∧ e ≤ 4500) (hf : -4500 ≤ f ∧ f ≤ 4500) (hn0 : n ≠ 0) :
  Calls Tryz.prog 218 #[vx, vy] w (RetP w (qtA m e n f) (qtD m e n f)):=by
 obtain ⟨A, c, rfl, hz1, hn1⟩:=hx.form
 obtain ⟨B, d, rfl, hz2, hn2⟩:=hy.form
 have L0:=((((Lq.mk0 w).z hz2).z hz1).n hn2).n hn1
 have hs:=fun v W h => dsign_any m e v W h (by omega)
 have hc : cmpI m 0 = 0 ↔ m = 0:=by unfold cmpI; (repeat' split) <;> omega
 obtain ⟨x, hx9⟩:=nm9 (cmpI m 0)
 rw [hx9] at hs hc
 have HS:=Hd9 hs
 clear hs hx9
 unfold qtA qtD
 by_cases q : m = 0
 ·rw [if_pos q, if_pos q]
  have hx0 : x = 0:=hc.2 q
  have b1 : (x == 0) = true:=by rw [hx0]; rfl
  have ho:=fun W => pof_any 0 W (by omega) (by omega)
  have HO:=Hd9 (fun W => (show Calls Tryz.prog 228 #[.int .i64 0] W (RetP W 0 1) from ho W))
  clear ho hc q hx hy hz1 hz2 hn1 hn2 lm ln he hf hn0 hx0
  go_enter Tryz.func218, Tryz.ntmps218
  go_wp2_with fail
  have L:=(((L0.varD (w.heap.size) (by simp) (ng m) A (zl m) c e).varD (w.heap.size + 1) (by simp) (ng n) B (zl n) d f).varQ (w.heap.size + 2) (by simp) false none none 0 0 0 0)
  obtain ⟨gr, hgr⟩:=nm9 (w.heap.size + 1 + 1)
  have hgr2 : w.heap.size + 2 = gr:=hgr
  rw [hgr2] at L
  rw [hgr]
  have hgr3 : w.heap.size + 1 < gr:=by omega
  clear hgr hgr2
  obtain ⟨c00,c01,c02⟩:=L.b0.a3
  obtain ⟨f00,f01,f02⟩:=L.b0.f3
  obtain ⟨c10,c11,c12⟩:=L.tl.b0.a3
  obtain ⟨c20,c21,c22⟩:=L.tl.tl.b0.a3
  (try go_wp2_with fail)
  refine (HS.out _ _ (isD_n (m:=m) (e:=e) (s:=.slice A (zl m) c) (L.getN (by simp)))).mono ?_
  rintro e w1 ⟨rfl, be⟩
  clear c00 f00 c01 f01 c02 f02 c10 c11 c12 c20 c21 c22
  replace L:=L.step be
  clear be
  obtain ⟨c00,c01,c02⟩:=L.b0.a3
  obtain ⟨f00,f01,f02⟩:=L.b0.f3
  obtain ⟨c10,c11,c12⟩:=L.tl.b0.a3
  obtain ⟨c20,c21,c22⟩:=L.tl.tl.b0.a3
  (try go_wp2_with fail)
  refine (HO.out _).mono ?_
  rintro e w2 ⟨vq, rfl, iq, be⟩
  clear c00 f00 c01 f01 c02 f02 c10 c11 c12 c20 c21 c22
  obtain ⟨A9, c9, B9, k9, rfl, _, _, _⟩:=iq.form
  replace L:=(L.step be).q iq
  clear be iq
  obtain ⟨c00,c01,c02⟩:=L.b0.a3
  obtain ⟨f00,f01,f02⟩:=L.b0.f3
  obtain ⟨c10,c11,c12⟩:=L.tl.b0.a3
  obtain ⟨c20,c21,c22⟩:=L.tl.tl.b0.a3
  (try go_wp2_with fail)
  have LP:=L.putQ (by omega) (by first | (simp; done) | (simp; omega)) (ng (0)) A9 B9 (zl (0)) c9 (len (1)) k9
  obtain ⟨k0,k1,k2⟩:=LP.b0.a3
  unfold put3 at k0 k1 k2
  exact bodyPost_ret (v:=.agg #[.bool (ng (0)), .slice A9 (zl (0)) c9, .slice B9 (len (1)) k9]) (by simp [results, Tryz.results218, go_sem, k0, k1, k2]) rfl ⟨_, rfl, LP.getQ (by simp), LP.below⟩
 ·rw [if_neg q, if_neg q]
  have b1 : (x == 0) = false:=by simpa using (fun h => q (hc.1 h))
  obtain ⟨z1, z2⟩:=qt_low (m:=m) hn0
  have hm:=fun v u W h1 h2 => pmake_any m n v u W h1 h2 (by omega) (by omega) hn0
  obtain ⟨p, hp⟩:=nm9 ((Rat.divInt m n).num)
  obtain ⟨r, hr⟩:=nm9 ((Rat.divInt m n).den)
  rw [hp] at hm z1 ⊢
  rw [hr] at hm z2 ⊢
  obtain ⟨s, hs⟩:=nm9 (e - f)
  have hs2 : f - e = -s:=by omega
  rw [hs, hs2]
  have w1 : IntKind.i64.wrap (e - f) = s:=by rw [hs, IntKind.wrap_i64]; omega
  have w2 : IntKind.i64.wrap (-s) = -s:=by rw [IntKind.wrap_i64]; omega
  have zr : zl ((r : Nat) : Int) ≤ 140:=by show len r ≤ 140; omega
  have n1:=fun v W h => anum_any p s v W h (by omega) (by omega)
  have n2:=fun v W h => anum_any ((r : Nat) : Int) (-s) v W h (by omega) (by omega)
  have hc2 : ((r : Nat) : Int) * 2 ^ (-s).toNat = ((r * 2 ^ (-s).toNat : Nat) : Int):=by rw [Int.natCast_mul, cast2]
  rw [hc2] at n2
  obtain ⟨a9, ha9⟩:=nm9 (p * 2 ^ s.toNat)
  obtain ⟨d9, hd9⟩:=nm9 (r * 2 ^ (-s).toNat)
  rw [ha9] at n1 ⊢
  rw [hd9] at n2 ⊢
  have HM:=Hd9 hm
  have N1:=Hd9 n1
  have N2:=Hd9 n2
  have hfd : ∀ (x : Bool) (E : Option Addr) (n1 n2 : Nat) (W : World), (Instr.field 24 (.agg #[.bool x, .slice E n1 n2]) 1).run Tryz.prog W = .ok (.slice E n1 n2) W:=fun _ _ _ _ _ => by kernel_rfl
  clear hm n1 n2 hp hr hs hs2 z1 z2 zr hc2 ha9 hd9 hc q hx hy hz1 hz2 hn1 hn2 lm ln he hf hn0
  go_enter Tryz.func218, Tryz.ntmps218
  go_wp2_with fail
  have L:=(((L0.varD (w.heap.size) (by simp) (ng m) A (zl m) c e).varD (w.heap.size + 1) (by simp) (ng n) B (zl n) d f).varQ (w.heap.size + 2) (by simp) false none none 0 0 0 0)
  obtain ⟨gr, hgr⟩:=nm9 (w.heap.size + 1 + 1)
  have hgr2 : w.heap.size + 2 = gr:=hgr
  rw [hgr2] at L
  rw [hgr]
  have hgr3 : w.heap.size + 1 < gr:=by omega
  clear hgr hgr2
  obtain ⟨c00,c01,c02⟩:=L.b0.a3
  obtain ⟨f00,f01,f02⟩:=L.b0.f3
  obtain ⟨c10,c11,c12⟩:=L.tl.b0.a3
  obtain ⟨c20,c21,c22⟩:=L.tl.tl.b0.a3
  (try go_wp2_with fail)
  refine (HS.out _ _ (isD_n (m:=m) (e:=e) (s:=.slice A (zl m) c) (L.getN (by simp)))).mono ?_
  rintro e w1 ⟨rfl, be⟩
  clear c00 f00 c01 f01 c02 f02 c10 c11 c12 c20 c21 c22
  replace L:=L.step be
  clear be
  obtain ⟨c00,c01,c02⟩:=L.b0.a3
  obtain ⟨f00,f01,f02⟩:=L.b0.f3
  obtain ⟨c10,c11,c12⟩:=L.tl.b0.a3
  obtain ⟨c20,c21,c22⟩:=L.tl.tl.b0.a3
  (try go_wp2_with fail)
  refine (HM.out _ _ _ (L.getZ (v:=.agg #[.bool (ng m), .slice A (zl m) c]) (by simp)) (L.getZ (v:=.agg #[.bool (ng n), .slice B (zl n) d]) (by simp))).mono ?_
  rintro e w2 ⟨vq, rfl, iq, be⟩
  clear c00 f00 c01 f01 c02 f02 c10 c11 c12 c20 c21 c22
  obtain ⟨A8, c8, B8, k8, rfl, iz8, _, in8⟩:=iq.form
  replace L:=((L.step be).z (isZ_nat in8)).z iz8
  clear be iq iz8 in8
  have hl8:=L.b0.lt
  have g8n : gr ≠ w2.heap.size:=by omega
  replace L:=L.varQ w2.heap.size rfl (ng p) A8 B8 (zl p) c8 (len r) k8
  obtain ⟨c00,c01,c02⟩:=L.b0.a3
  obtain ⟨c20,c21,c22⟩:=L.tl.tl.b0.a3
  obtain ⟨c30,c31,c32⟩:=L.tl.tl.tl.b0.a3
  go_wp2_with fail
  replace L:=L.swap.drew
  clear c00 c01 c02 c20 c21 c22 c30 c31 c32
  obtain ⟨c00,c01,c02⟩:=L.b0.a3
  obtain ⟨f00,f01,f02⟩:=L.b0.f3
  obtain ⟨c10,c11,c12⟩:=L.tl.b0.a3
  go_region_held3 (fun w' => w'.cell? ⟨w2.heap.size, 0, none⟩ = some (.bool (ng p)) ∧ w'.cell? ⟨w2.heap.size, 1, none⟩ = some (.slice A8 (zl p) c8) ∧ w'.cell? ⟨w2.heap.size, 2, none⟩ = some (.slice B8 (len r) k8)) (first | (with_reducible exact ⟨L.tl.b0.c30, L.tl.b0.c31, L.tl.b0.c32⟩) | exact ⟨L.tl.b0.c30, L.tl.b0.c31, L.tl.b0.c32⟩ | (have LP:=L.putQ (by omega) (by first | (simp; done) | (simp; omega)) (ng a9) A9 B9 (zl a9) c9 (zl (d9 : Int)) k9; exact ⟨LP.tl.b0.c30, LP.tl.b0.c31, LP.tl.b0.c32⟩)) (first | (go_at_call 233; (with_reducible refine (N1.out _ _ ?_ ).mono ?_); (· (refine L.getZ ?_; (repeat (first | (with_reducible exact mS) | apply mT)))); rintro e wh ⟨vh, rfl, iz, be⟩; obtain ⟨A9, c9, rfl, in9⟩:=iz.form; replace L:=(L.step be).n in9; clear be iz in9; (try (obtain ⟨x00,x01,x02⟩:=L.b0.a3; obtain ⟨y00,y01,y02⟩:=L.b0.f3))) | (go_at_call 233; (with_reducible refine (N2.out _ _ ?_ ).mono ?_); (· (refine L.getZ ?_; (repeat (first | (with_reducible exact mS) | apply mT)))); rintro e wh ⟨vh, rfl, iz, be⟩; obtain ⟨B9, k9, rfl, in9⟩:=iz.form; replace L:=(L.step be).n in9; clear be iz in9; (try (obtain ⟨x00,x01,x02⟩:=L.b0.a3; obtain ⟨y00,y01,y02⟩:=L.b0.f3))))
  clear c00 f00 c01 f01 c02 f02 c10 c11 c12
  go_wp2_with fail
  have LP:=L.putQ (by omega) (by first | (simp; done) | (simp; omega)) (ng a9) A9 B9 (zl a9) c9 (zl (d9 : Int)) k9
  obtain ⟨k0,k1,k2⟩:=LP.b0.a3
  unfold put3 at k0 k1 k2
  exact bodyPost_ret (v:=.agg #[.bool (ng a9), .slice A9 (zl a9) c9, .slice B9 (zl (d9 : Int)) k9]) (by simp [results, Tryz.results218, go_sem, k0, k1, k2]) rfl ⟨_, rfl, ⟨_, _, rfl, LP.getN (by simp), (show IsN _ _ (d9 : Int).natAbs from LP.getN (by simp))⟩, LP.below⟩
theorem div_ends {a b c d : Rat} (hab : a ≤ b) (hc : 0 < c) (hcd : c ≤ d) : (if a < 0 then a / c else a / d) = min4 (a / c) (a / d) (b / c) (b / d) ∧ (if b < 0 then b / d else b / c) = max4 (a / c) (a / d) (b / c) (b / d):=by
 have hd : 0 < d:=rle_lt hc hcd
 have i1:=inv_anti hc hcd
 have i2:=Rat.le_of_lt (inv_pos hc)
 have i3:=Rat.le_of_lt (inv_pos hd)
 simp only [Rat.div_def]
 have b1:=mul_nn hab i2
 have b2:=mul_nn hab i3
 have m4:=min4_le (a * c⁻¹) (a * d⁻¹) (b * c⁻¹) (b * d⁻¹)
 have M4:=le_max4 (a * c⁻¹) (a * d⁻¹) (b * c⁻¹) (b * d⁻¹)
 constructor
 ·by_cases h : a < 0
  ·rw [if_pos h]
   have a1:=mul_np i1 (Rat.le_of_lt h)
   rw [Rat.mul_comm, Rat.mul_comm d⁻¹] at a1
   exact Rat.le_antisymm (le_min4 Rat.le_refl a1 b1 (Rat.le_trans a1 b2)) m4.1
  ·rw [if_neg h]
   have a1:=mul_nn i1 (Rat.not_lt.1 h)
   rw [Rat.mul_comm, Rat.mul_comm c⁻¹] at a1
   exact Rat.le_antisymm (le_min4 a1 Rat.le_refl (Rat.le_trans a1 b1) b2) m4.2.1
 ·by_cases h : b < 0
  ·rw [if_pos h]
   have a1:=mul_np i1 (Rat.le_of_lt h)
   rw [Rat.mul_comm, Rat.mul_comm d⁻¹] at a1
   exact Rat.le_antisymm M4.2.2.2 (max4_le (Rat.le_trans b1 a1) b2 a1 Rat.le_refl)
  ·rw [if_neg h]
   have a1:=mul_nn i1 (Rat.not_lt.1 h)
   rw [Rat.mul_comm, Rat.mul_comm c⁻¹] at a1
   exact Rat.le_antisymm M4.2.2.1 (max4_le b1 (Rat.le_trans b2 a1) Rat.le_refl a1)
theorem dq_lt0 (m e : Int) : dq m e < 0 ↔ m < 0:=by
 have h:=dcm_lt m e 0 0
 rw [dcm_zero, show dq 0 0 = 0 from rfl] at h
 rw [← h]
 unfold cmpI
 (repeat' split) <;> omega
theorem dq_gt0 (m e : Int) : 0 < dq m e ↔ 0 < m:=by
 have h:=dcm_lt 0 0 m e
 rw [dcm_swap m e 0 0, dcm_zero, show dq 0 0 = 0 from rfl] at h
 rw [← h]
 unfold cmpI
 (repeat' split) <;> omega
theorem quo_lo {m e n f m2 e2 n2 f2 : Int} (h1 : dcm m e n f ≤ 0) (h2 : dcm m2 e2 n2 f2 ≤ 0) (hp : 0 < m2) (hp2 : 0 < n2) : Rat.divInt (qtA m e (if m < 0 then m2 else n2) (if m < 0 then e2 else f2)) (qtD m e (if m < 0 then m2 else n2) (if m < 0 then e2 else f2) : Int) = min4 (dq m e / dq m2 e2) (dq m e / dq n2 f2) (dq n f / dq m2 e2) (dq n f / dq n2 f2):=by
 rw [← (div_ends ((dcm_le _ _ _ _).1 h1) ((dq_gt0 m2 e2).2 hp) ((dcm_le _ _ _ _).1 h2)).1]
 have hs:=dq_lt0 m e
 by_cases h : m < 0
 ·rw [if_pos h, if_pos h, if_pos (hs.2 h)]
  exact qt_val (by omega)
 ·rw [if_neg h, if_neg h, if_neg (fun h9 => h (hs.1 h9))]
  exact qt_val (by omega)
theorem quo_hi {m e n f m2 e2 n2 f2 : Int} (h1 : dcm m e n f ≤ 0) (h2 : dcm m2 e2 n2 f2 ≤ 0) (hp : 0 < m2) (hp2 : 0 < n2) : Rat.divInt (qtA n f (if n < 0 then n2 else m2) (if n < 0 then f2 else e2)) (qtD n f (if n < 0 then n2 else m2) (if n < 0 then f2 else e2) : Int) = max4 (dq m e / dq m2 e2) (dq m e / dq n2 f2) (dq n f / dq m2 e2) (dq n f / dq n2 f2):=by
 rw [← (div_ends ((dcm_le _ _ _ _).1 h1) ((dq_gt0 m2 e2).2 hp) ((dcm_le _ _ _ _).1 h2)).2]
 have hs:=dq_lt0 n f
 by_cases h : n < 0
 ·rw [if_pos h, if_pos h, if_pos (hs.2 h)]
  exact qt_val (by omega)
 ·rw [if_neg h, if_neg h, if_neg (fun h9 => h (hs.1 h9))]
  exact qt_val (by omega)
theorem cmp_signs {m n : Int} (h : cmpI m 0 = cmpI n 0) : (cmpI m 0 < 0 → m < 0 ∧ n < 0) ∧ (¬ cmpI m 0 < 0 → cmpI m 0 ≠ 0 → 0 < m ∧ 0 < n):=by
 unfold cmpI at *
 (repeat' split at *) <;> omega
theorem Lq.name {w0 w : World} {ns : List (Value × Nat)} {zs : List (Value × Int)} {qs : List (Value × Int × Nat)} {bs : List (Nat × TypeId × Array Value)} (h : Lq w0 w ns zs qs bs) : ∃ x, w = x ∧ Lq w0 x ns zs qs bs:=⟨w, rfl, h⟩


theorem arg_cut {q : Rat} (v : Nat) (h1 : 3 / 4 ≤ q) (h2 : q < 3 / 2) : 3 * 2 ^ v - 4 ≤ 4 * cutQ q (v : Int) ∧ 2 * -(cutQ (-q) (v : Int)) ≤ 3 * 2 ^ v + 2 ∧ cutQ q (v : Int) ≤ -(cutQ (-q) (v : Int)) ∧ -(cutQ (-q) (v : Int)) ≤ cutQ q (v : Int) + 1:=by
 have a2:=cut_hi q (v : Int)
 have b2:=cut_hi (-q) (v : Int)
 have hle:=(SpC.at q v).le
 generalize cutQ q (v : Int) = c at *
 generalize cutQ (-q) (v : Int) = d at *
 have e1 : dq (3 * 2 ^ v) (-(v : Int)) = 3:=by
  have:=dq_onep v
  rw [dq_scale] at this
  rw [dq_scale, Rat.intCast_mul, Rat.mul_assoc, this, Rat.mul_one]
  rfl
 have e2 : ∀ n x : Int, dq (n * x) (-(v : Int)) = (n : Rat) * dq x (-(v : Int)):=fun n x => by
  rw [dq_scale, dq_scale x, Rat.intCast_mul, Rat.mul_assoc]
 have e4 : dq (4 * (c + 1)) (-(v : Int)) = 4 * (dq c (-(v : Int)) + dq 1 (-(v : Int))):=by rw [e2, dq_addI]; rfl
 have e5 : dq (-2 * (d + 1)) (-(v : Int)) = -2 * (dq d (-(v : Int)) + dq 1 (-(v : Int))):=by rw [e2, dq_addI]; rfl
 have e6 : dq (-1 * (d + 1)) (-(v : Int)) = -1 * (dq d (-(v : Int)) + dq 1 (-(v : Int))):=by rw [e2, dq_addI]; rfl
 have e7 : dq (c + 1) (-(v : Int)) = dq c (-(v : Int)) + dq 1 (-(v : Int)):=dq_addI _ _ _
 have k1 : dq (3 * 2 ^ v) (-(v : Int)) < dq (4 * (c + 1)) (-(v : Int)):=by
  rw [e1, e4]
  generalize dq c (-(v : Int)) = x at *
  generalize dq 1 (-(v : Int)) = u at *
  clear e1 e2 e4 e5 e6 e7 b2 hle
  grind
 have k2 : dq (-2 * (d + 1)) (-(v : Int)) < dq (3 * 2 ^ v) (-(v : Int)):=by
  rw [e1, e5]
  generalize dq d (-(v : Int)) = x at *
  generalize dq 1 (-(v : Int)) = u at *
  clear e1 e2 e4 e5 e6 e7 a2 hle k1
  grind
 have k3 : dq (-1 * (d + 1)) (-(v : Int)) < dq (c + 1) (-(v : Int)):=by
  rw [e6, e7]
  generalize dq d (-(v : Int)) = x at *
  generalize dq c (-(v : Int)) = y at *
  generalize dq 1 (-(v : Int)) = u at *
  clear e1 e2 e4 e5 e6 e7 hle k1 k2
  grind
 have j1:=(dq_lt_iff _ _ _).1 k1
 have j2:=(dq_lt_iff _ _ _).1 k2
 have j3:=(dq_lt_iff _ _ _).1 k3
 generalize (2 : Int) ^ v = P at *
 clear e1 e2 e4 e5 e6 e7 k1 k2 k3 a2 b2
 omega
theorem SpC.out15 {a b : Int} {v k j : Nat} {x : Rat} (h : SpC a b v x) (hj : v = k + j) : dq (a / 2 ^ j) (-(k : Int)) ≤ x ∧ x ≤ dq (cdv b (2 ^ j)) (-(k : Int)):=by
 have hp:=pow2_pos j
 have e : dq 1 (-(k : Int)) = dq 1 (-(v : Int)) * (((2 : Int) ^ j : Int) : Rat):=by
  have h1:=two_cast v
  have h2:=two_cast k
  rw [hj, Int.pow_add, Rat.intCast_mul] at h1
  rw [← hj] at h1
  have h3:=dq_pos (-(k : Int))
  grind
 have e2 : ∀ X : Int, dq X (-(k : Int)) = dq X (-(v : Int)) * (((2 : Int) ^ j : Int) : Rat):=fun X => by
  rw [dq_scale X, dq_scale X (-(v : Int)), e]; grind
 refine ⟨Rat.le_trans ?_ h.1, Rat.le_trans h.2 ?_⟩
 ·rw [e2]; exact fdiv_le hp _
 ·rw [e2]; exact le_cdiv hp _
theorem two15 (k : Nat) : rp 2 k = dq 1 (k : Int):=by
 have:=rp_two 1 k
 rw [Int.one_mul] at this
 rw [← this]
 rfl
theorem mul15 (x : Int) (n v : Nat) : dq (x * (n : Int)) (-(v : Int)) = (n : Rat) * dq x (-(v : Int)):=by
 rw [dq_scale, dq_scale x, Rat.intCast_mul, Rat.intCast_natCast]
 grind
def LnU (v : Nat) (s t : Int) (x : Rat) : Prop:=UpE (dq s (-(v : Int))) x ∧ LoE x (dq t (-(v : Int)))
theorem LnU.plus {v n : Nat} {s t m e : Int} (h : LnU v s t (dq m (spE m))) (hm : 0 < m) (hv : v < 200) (hk : spK m e = (n : Int)) : LnU v (s + lnL v * (n : Int)) (t + lnH v * (n : Int)) (dq m e):=by
 obtain ⟨l1, l2⟩:=lnc hv
 have hm0 : 0 < dq m (spE m):=(dq_gt0 _ _).2 hm
 have hsum:=sp_sum m e
 have a1:=ln_red_up h.1 l1 n
 have a2:=ln_red_lo h.2 hm0 l2 n
 have ee : dq m (spE m) * rp 2 n = dq m e:=by
  rw [two15, ← dq_mul, Int.mul_one]
  congr 1
  omega
 rw [ee] at a1 a2
 unfold LnU
 rw [dq_addI, dq_addI, mul15, mul15]
 exact ⟨a1, a2⟩
theorem LnU.minus {v n : Nat} {s t m e : Int} (h : LnU v s t (dq m (spE m))) (hm : 0 < m) (hv : v < 200) (hk : spK m e = -(n : Int)) : LnU v (s - lnH v * (n : Int)) (t - lnL v * (n : Int)) (dq m e):=by
 obtain ⟨l1, l2⟩:=lnc hv
 have hm0 : 0 < dq m (spE m):=(dq_gt0 _ _).2 hm
 have hsum:=sp_sum m e
 have a1:=ln_red_up' h.1 l2 n
 have a2:=ln_red_lo' h.2 hm0 l1 n
 have ee : dq m (spE m) * (rp 2 n)⁻¹ = dq m e:=by
  have h1 : dq m e * rp 2 n = dq m (spE m):=by
   rw [two15, ← dq_mul, Int.mul_one]
   congr 1
   omega
  have h2 : rp 2 n * (rp 2 n)⁻¹ = 1:=Rat.mul_inv_cancel _ (Rat.ne_of_gt (rp_pos (by decide) n))
  rw [← h1, Rat.mul_assoc, h2, Rat.mul_one]
 rw [ee] at a1 a2
 have sb : ∀ a b : Int, dq (a - b) (-(v : Int)) = dq a (-(v : Int)) - dq b (-(v : Int)):=fun a b => by
  rw [Int.sub_eq_add_neg, dq_addI, dq_neg, Rat.sub_eq_add_neg]
 unfold LnU
 rw [sb, sb, mul15, mul15]
 exact ⟨a1, a2⟩
theorem LnU.zero {v : Nat} {s t m e : Int} (h : LnU v s t (dq m (spE m))) (hk : spK m e = 0) : LnU v s t (dq m e):=by
 have hsum:=sp_sum m e
 rw [hk, Int.zero_add] at hsum
 rwa [hsum] at h
theorem LnU.out {v k j : Nat} {s t : Int} {x : Rat} (h : LnU v s t x) (hj : v = k + j) : LnB k (s / 2 ^ j) (cdv t (2 ^ j)) x:=by
 have hp:=h.1.pos
 obtain ⟨u1, _⟩:=SpC.out15 (a:=s) (b:=s) (x:=dq s (-(v : Int))) ⟨Rat.le_refl, Rat.le_refl⟩ hj
 obtain ⟨_, u2⟩:=SpC.out15 (a:=t) (b:=t) (x:=dq t (-(v : Int))) ⟨Rat.le_refl, Rat.le_refl⟩ hj
 exact ⟨h.1.mono u1, h.2.mono u2 (Rat.le_of_lt hp)⟩
theorem RfJ.end9 {v n f : Nat} {m a b p q : Int} (h : RfJ v n f ((dq m (spE m) - 1) / (dq m (spE m) + 1)) a b p q) (hm : 0 < m) (ht : tnB a b = true) : LnU v ((p - 3) * 2) ((q + 3) * 2) (dq m (spE m)):=by
 obtain ⟨m1, m2⟩:=sp_bd hm
 obtain ⟨z1, z2, ze⟩:=ln_arg m1 (Rat.le_of_lt m2)
 have l:=h.last ht (by clear h; grind) (by clear h; grind)
 rw [ze] at l
 exact l
theorem end_sizes {v n f : Nat} {z : Rat} {a b p q : Int} (h : RfJ v n f z a b p q) : AbP ((p - 3) * 2) (2 * v + 4) ∧ AbP ((q + 3) * 2) (2 * v + 4):=by
 obtain ⟨_, _, h1, h2⟩:=h.sizes
 have e : (2 : Nat) ^ (2 * v + 4) = 16 * 2 ^ (2 * v):=by rw [Nat.pow_add]; omega
 have hp:=Nat.pow_pos (n:=2 * v) (show 0 < 2 by omega)
 unfold AbP at *
 rw [e]
 omega

theorem s15split_any (m e : Int) (vx : Value) (w : World) (hx : IsD w vx m e) (hm : 0 < m) (hv : Dv m e) (lm : zl m ≤ 400) (he : -70000 ≤ e ∧ e ≤ 70000) :
  Calls Tryz.prog 63 #[vx] w (RetSK w (spK m e) m (spE m) 0):=by
 obtain ⟨A, c, rfl, _, hn⟩:=hx.form
 have L0:=(Lq.mk0 w).n hn
 obtain ⟨n, hn9⟩:=nm9 (spN m)
 have hnb:=spN_le m
 obtain ⟨hnp, _, _⟩:=spN_bd hm
 rw [hn9] at hnb hnp
 have g1:=fun x W h => rsign8_any m e x W h (by omega)
 rw [cmpI_gt hm] at g1
 have g2:=fun W h => rbits_any m.natAbs (.slice A (zl m) c) W h (by have e9 : zl m = len m.natAbs:=rfl; omega)
 rw [show blen m.natAbs = n from hn9] at g2
 have g3:=fun W => rof8_any 3 W (by omega) (by omega)
 have z3 : zl 3 ≤ 1:=len_le1 (show 3 < 4294967296 by omega)
 have dv3 : ∀ x : Int, -60000 ≤ x ∧ x ≤ 60000 → Dv 3 x:=fun x hx => dv_at (m:=3) (e:=0) (Or.inr ⟨by decide, by decide +kernel⟩) (by decide) hx
 obtain ⟨b1, b2, b3⟩:=dv_mk (x:=0) (dv3 0 (by omega)) (by omega) (by omega)
 rw [b2, b3] at g3
 obtain ⟨d1, d2, d3⟩:=dv_mk (x := -1) (dv3 _ (by omega)) (by omega) (by omega)
 have g4:=fun x W h => rmake8_any 3 (-1) x W h (by omega)
 rw [d1, d2, d3] at g4
 have g5:=fun x y W h j => rcmp8_any m (1 - (n : Int)) 3 (-1) x y W h j (by omega) (by omega) (by omega) (by omega)
 have hle:=dcm_lt m (1 - (n : Int)) 3 (-1)
 rw [show cmpI (m * 2 ^ (1 - (n : Int) - min (1 - (n : Int)) (-1)).toNat) (3 * 2 ^ (-1 - min (1 - (n : Int)) (-1)).toNat) = dcm m (1 - (n : Int)) 3 (-1) from rfl] at g5
 have hlt2 : dq m (1 - (n : Int)) < dq 3 (-1) ↔ 4 * m < 3 * 2 ^ n:=by
  have e1 : dq m (1 - (n : Int)) = dq (4 * m) (-(n : Int) - 1):=by
   refine dq_eq (F := -(n : Int) - 1) ?_ (by omega) (by omega)
   rw [show (1 - (n : Int) - (-(n : Int) - 1)).toNat = 2 by omega, show (-(n : Int) - 1 - (-(n : Int) - 1)).toNat = 0 by omega]
   omega
  have e2 : dq 3 (-1) = dq (3 * 2 ^ n) (-(n : Int) - 1):=by
   refine dq_eq (F := -(n : Int) - 1) ?_ (by omega) (by omega)
   rw [show (-1 - (-(n : Int) - 1)).toNat = n by omega, show (-(n : Int) - 1 - (-(n : Int) - 1)).toNat = 0 by omega]
   simp
  rw [e1, e2]
  constructor
  ·intro h
   refine Int.not_le.1 fun hle => Rat.not_le.2 h ((dq_le_iff _ _ _).2 hle)
  ·intro h
   refine Rat.not_le.1 fun hle => ?_
   have:=(dq_le_iff _ _ _).1 hle
   omega
 rw [hlt2] at hle
 generalize dcm m (1 - (n : Int)) 3 (-1) = cm at *
 have hres : (cm < 0 → spK m e = e + (n : Int) - 1 ∧ spE m = 1 - (n : Int)) ∧ (0 ≤ cm → spK m e = e + (n : Int) ∧ spE m = -(n : Int)):=by
  unfold spK spE spB
  rw [hn9]
  refine ⟨fun h => ?_, fun h => ?_⟩
  ·rw [decide_eq_true (hle.1 h), if_pos rfl, if_pos rfl]; omega
  ·rw [decide_eq_false (fun h9 => by have:=hle.2 h9; omega), if_neg (by decide), if_neg (by decide)]; omega
 have HR:=Hd9 hres
 obtain ⟨x9, hx9⟩:=nm9 (1 - (n : Int))
 obtain ⟨y9, hy9⟩:=nm9 (-(n : Int))
 obtain ⟨k8, hk8⟩:=nm9 (e + (n : Int))
 obtain ⟨k9, hk9⟩:=nm9 (e + (n : Int) - 1)
 have w1 : IntKind.i64.wrap (1 - (n : Int)) = x9:=by rw [IntKind.wrap_i64]; omega
 have w2 : IntKind.i64.wrap (e + (n : Int)) = k8:=by rw [IntKind.wrap_i64]; omega
 have w3 : IntKind.i64.wrap (k8 - 1) = k9:=by rw [IntKind.wrap_i64]; omega
 have w4 : IntKind.i64.wrap (x9 - 1) = y9:=by rw [IntKind.wrap_i64]; omega
 have w5 : IntKind.i64.wrap (k9 + 1) = k8:=by rw [IntKind.wrap_i64]; omega
 rw [hx9] at g5
 rw [hx9, hy9, hk9, hk8] at HR
 clear hres hle hlt2 b1 b2 b3 d1 d2 d3 z3 dv3 hnb hnp hn9 hx9 hy9 hk8 hk9 hx hm hv lm hn he
 have G1:=Hd9 g1
 have G2:=Hd9 g2
 have G3:=Hd9 g3
 have G4:=Hd9 g4
 have G5:=Hd9 g5
 clear g1 g2 g3 g4 g5
 rcases Int.lt_or_le cm 0 with hcm | hcm
 ·have d9 : decide (0 ≤ cm) = false:=decide_eq_false (by omega)
  obtain ⟨r1, r2⟩:=HR.out.1 hcm
  rw [r1, r2]
  clear HR r1 r2
  go_enter Tryz.func63, Tryz.ntmps63
  have L:=((L0.varD (w.heap.size) (by simp) (ng m) A (zl m) c e).varD (w.heap.size + 1) (by simp) false none 0 0 0)
  obtain ⟨c10,c11,c12⟩:=L.tl.b0.a3
  (try go_wp2_with fail)
  refine (G1.out _ _ (isD_n (m:=m) (e:=e) (s:=.slice A (zl m) c) (L.getN (by simp)))).mono ?_
  rintro e w1 ⟨rfl, be⟩
  clear c10 c11 c12
  replace L:=L.step be
  clear be
  obtain ⟨c10,c11,c12⟩:=L.tl.b0.a3
  (try go_wp2_with fail)
  clear c10 c11 c12
  refine (G2.out _ (L.getN (by simp))).mono ?_
  rintro e9 w' ⟨rfl, rfl⟩
  have hl9:=L.b0.lt
  obtain ⟨c10,c11,c12⟩:=L.tl.b0.a3
  have LN:=L.varD w1.heap.size rfl (ng m) A (zl m) c x9
  obtain ⟨v0,v1,v2⟩:=LN.b0.a3
  obtain ⟨v3,v4,v5⟩:=LN.tl.tl.b0.a3
  go_wp2_with fail
  clear v0 v1 v2 v3 v4 v5
  clear c10 c11 c12
  clear L
  have L:=LN
  clear LN
  obtain ⟨g1, hg1⟩:=nm9 (w1.heap.size)
  rw [hg1] at L hl9 ⊢
  clear hg1
  have hl_g1:=hl9
  clear hl9
  refine (G3.out _).mono ?_
  rintro e w2 ⟨v9, rfl, iz, be⟩
  obtain ⟨A2, c2, rfl, _, in9⟩:=iz.form
  replace L:=(L.step be).n in9
  clear be iz in9
  have hfd : ∀ W, (Instr.field 26 (.agg #[.bool (ng 3), .slice A2 (zl 3) c2, .int .i64 0]) 0).run Tryz.prog W = .ok (.agg #[.bool (ng 3), .slice A2 (zl 3) c2]) W:=fun W => by kernel_rfl
  (try go_wp2_with fail)
  clear hfd
  refine (G4.out _ _ ⟨.slice A2 (zl 3) c2, rfl, L.getN (by simp)⟩).mono ?_
  rintro e w3 ⟨v9, rfl, iz, be⟩
  obtain ⟨A3, c3, rfl, _, in9⟩:=iz.form
  replace L:=(L.step be).n in9
  clear be iz in9
  have hl9:=L.b0.lt
  replace L:=L.varD w3.heap.size rfl (ng 3) A3 (zl 3) c3 (-1)
  obtain ⟨c00,c01,c02⟩:=L.b0.a3
  obtain ⟨c10,c11,c12⟩:=L.tl.b0.a3
  go_wp2_with fail
  clear c00 c01 c02 c10 c11 c12
  obtain ⟨g2, hg2⟩:=nm9 (w3.heap.size)
  rw [hg2] at L hl9 ⊢
  clear hg2
  have hl_g2:=hl9
  clear hl9
  refine (G5.out _ _ _ (isD_n (m:=m) (e:=x9) (s:=.slice A (zl m) c) (L.getN (by simp))) (isD_n (m:=3) (e:=(-1)) (s:=.slice A3 (zl 3) c3) (L.getN (by simp)))).mono ?_
  rintro e w4 ⟨rfl, be⟩
  replace L:=L.step be
  clear be
  replace L:=L.swap
  have n9 : w.heap.size + 1 ≠ g1:=by omega
  have L9:=L.subx (ns':=[(.slice A (zl m) c, m.natAbs)]) (bs':=[(w.heap.size + 1, 26, #[.bool false, .slice none 0 0, .int .i64 0]), (g1, 26, #[.bool (ng m), .slice A (zl m) c, .int .i64 x9])]) (by simp) (by simp)
  clear L
  have L:=L9
  clear L9
  obtain ⟨c00,c01,c02⟩:=L.b0.a3
  obtain ⟨f00,f01,f02⟩:=L.b0.f3
  obtain ⟨c10,c11,c12⟩:=L.tl.b0.a3
  (try go_wp2_with fail)
  go_region
  all_goals (try go_wp2_with fail)
  clear c00 f00 c01 f01 c02 f02 c10 c11 c12
  all_goals
   have LP:=(L.putD (by omega) (by first | (simp; done) | (simp; omega)) (ng m) A (zl m) c x9).drew
   unfold put3 at LP
   obtain ⟨k0,k1,k2⟩:=LP.b0.a3
   exact bodyPost_ret (v:=.tuple #[.int .i64 k9, .agg #[.bool (ng m), .slice A (zl m) c, .int .i64 x9], .int .i64 0]) (by simp [results, Tryz.results63, go_sem, k0, k1, k2]) rfl ⟨_, rfl, isD_n (LP.getN (by simp)), LP.below⟩
 ·have d9 : decide (0 ≤ cm) = true:=decide_eq_true hcm
  obtain ⟨r1, r2⟩:=HR.out.2 hcm
  rw [r1, r2]
  clear HR r1 r2
  go_enter Tryz.func63, Tryz.ntmps63
  have L:=((L0.varD (w.heap.size) (by simp) (ng m) A (zl m) c e).varD (w.heap.size + 1) (by simp) false none 0 0 0)
  obtain ⟨c10,c11,c12⟩:=L.tl.b0.a3
  (try go_wp2_with fail)
  refine (G1.out _ _ (isD_n (m:=m) (e:=e) (s:=.slice A (zl m) c) (L.getN (by simp)))).mono ?_
  rintro e w1 ⟨rfl, be⟩
  clear c10 c11 c12
  replace L:=L.step be
  clear be
  obtain ⟨c10,c11,c12⟩:=L.tl.b0.a3
  (try go_wp2_with fail)
  clear c10 c11 c12
  refine (G2.out _ (L.getN (by simp))).mono ?_
  rintro e9 w' ⟨rfl, rfl⟩
  have hl9:=L.b0.lt
  obtain ⟨c10,c11,c12⟩:=L.tl.b0.a3
  have LN:=L.varD w1.heap.size rfl (ng m) A (zl m) c x9
  obtain ⟨v0,v1,v2⟩:=LN.b0.a3
  obtain ⟨v3,v4,v5⟩:=LN.tl.tl.b0.a3
  go_wp2_with fail
  clear v0 v1 v2 v3 v4 v5
  clear c10 c11 c12
  clear L
  have L:=LN
  clear LN
  obtain ⟨g1, hg1⟩:=nm9 (w1.heap.size)
  rw [hg1] at L hl9 ⊢
  clear hg1
  have hl_g1:=hl9
  clear hl9
  refine (G3.out _).mono ?_
  rintro e w2 ⟨v9, rfl, iz, be⟩
  obtain ⟨A2, c2, rfl, _, in9⟩:=iz.form
  replace L:=(L.step be).n in9
  clear be iz in9
  have hfd : ∀ W, (Instr.field 26 (.agg #[.bool (ng 3), .slice A2 (zl 3) c2, .int .i64 0]) 0).run Tryz.prog W = .ok (.agg #[.bool (ng 3), .slice A2 (zl 3) c2]) W:=fun W => by kernel_rfl
  (try go_wp2_with fail)
  clear hfd
  refine (G4.out _ _ ⟨.slice A2 (zl 3) c2, rfl, L.getN (by simp)⟩).mono ?_
  rintro e w3 ⟨v9, rfl, iz, be⟩
  obtain ⟨A3, c3, rfl, _, in9⟩:=iz.form
  replace L:=(L.step be).n in9
  clear be iz in9
  have hl9:=L.b0.lt
  replace L:=L.varD w3.heap.size rfl (ng 3) A3 (zl 3) c3 (-1)
  obtain ⟨c00,c01,c02⟩:=L.b0.a3
  obtain ⟨c10,c11,c12⟩:=L.tl.b0.a3
  go_wp2_with fail
  clear c00 c01 c02 c10 c11 c12
  obtain ⟨g2, hg2⟩:=nm9 (w3.heap.size)
  rw [hg2] at L hl9 ⊢
  clear hg2
  have hl_g2:=hl9
  clear hl9
  refine (G5.out _ _ _ (isD_n (m:=m) (e:=x9) (s:=.slice A (zl m) c) (L.getN (by simp))) (isD_n (m:=3) (e:=(-1)) (s:=.slice A3 (zl 3) c3) (L.getN (by simp)))).mono ?_
  rintro e w4 ⟨rfl, be⟩
  replace L:=L.step be
  clear be
  replace L:=L.swap
  obtain ⟨c00,c01,c02⟩:=L.b0.a3
  obtain ⟨f00,f01,f02⟩:=L.b0.f3
  have P:=L.set (by omega) (by simp; omega) 2 (.int .i64 y9) (by intro x e; cases e)
  obtain ⟨p0,p1,p2⟩:=P.b0.a3
  go_wp2_with fail
  replace L:=P
  clear P p0 p1 p2
  clear c00 f00 c01 f01 c02 f02
  have n9 : w.heap.size + 1 ≠ g1:=by omega
  have L9:=L.subx (ns':=[(.slice A (zl m) c, m.natAbs)]) (bs':=[(w.heap.size + 1, 26, #[.bool false, .slice none 0 0, .int .i64 0]), (g1, 26, #[.bool (ng m), .slice A (zl m) c, .int .i64 y9])]) (by simp) (by simp)
  clear L
  have L:=L9
  clear L9
  obtain ⟨c00,c01,c02⟩:=L.b0.a3
  obtain ⟨f00,f01,f02⟩:=L.b0.f3
  obtain ⟨c10,c11,c12⟩:=L.tl.b0.a3
  (try go_wp2_with fail)
  go_region
  all_goals (try go_wp2_with fail)
  clear c00 f00 c01 f01 c02 f02 c10 c11 c12
  all_goals
   have LP:=(L.putD (by omega) (by first | (simp; done) | (simp; omega)) (ng m) A (zl m) c y9).drew
   unfold put3 at LP
   obtain ⟨k0,k1,k2⟩:=LP.b0.a3
   exact bodyPost_ret (v:=.tuple #[.int .i64 k8, .agg #[.bool (ng m), .slice A (zl m) c, .int .i64 y9], .int .i64 0]) (by simp [results, Tryz.results63, go_sem, k0, k1, k2]) rfl ⟨_, rfl, isD_n (LP.getN (by simp)), LP.below⟩

theorem abs_floor (y : Int) {n : Int} (hn : 0 < n) : (y / n).natAbs ≤ y.natAbs:=by
 rcases Int.lt_or_le y 0 with h | h
 ·have h1 : y / n < 0:=Int.ediv_neg_of_neg_of_pos h hn
  have h2 : y ≤ y / n:=by
   rw [Int.le_ediv_iff_mul_le hn]
   have:=Int.mul_le_mul_of_nonneg_left (show (1 : Int) ≤ n by omega) (show 0 ≤ -y by omega)
   rw [Int.mul_one, Int.neg_mul] at this
   omega
  omega
 ·have h1:=Int.ediv_nonneg h (show 0 ≤ n by omega)
  have h2:=Int.ediv_le_self n h
  omega
theorem zl_floor (y : Int) {n : Int} (hn : 0 < n) : zl (y / n) ≤ zl y:=len_mono (abs_floor y hn)
theorem zl_cdv (y : Int) {n : Int} (hn : 0 < n) : zl (cdv y n) ≤ zl y:=by
 unfold cdv
 rw [zl_neg]
 exact Nat.le_trans (zl_floor (-y) hn) (Nat.le_of_eq (zl_neg y))

theorem s13overD_any (x n : Int) (vx vn : Value) (w : World) (hx : IsZ w vx x) (hn : IsZ w vn n) (lx : zl x ≤ 1000000) (ln : zl n ≤ 1000000) (h0 : 0 < n) :
  Calls Tryz.prog 195 #[vx, vn, .bool false] w (RetZ w (x / n)):=by
 obtain ⟨A, c, rfl, in1⟩:=hx.form
 obtain ⟨B, d, rfl, in2⟩:=hn.form
 have L0:=((Lq.mk0 w).z hn).z hx
 have g2:=fun v u W h k => rzdivmod_pos x n v u W h k (by omega) (by omega) h0
 obtain ⟨C, hC⟩:=nm9 (x / n)
 obtain ⟨R, hR⟩:=nm9 (x % n)
 rw [hC, hR] at g2
 rw [hC]
 have H2:=Hd9 g2
 clear g2 hC hR hx hn in1 in2 h0
 go_enter Tryz.func195, Tryz.ntmps195
 go_wp2_with fail
 have L:=(((L0.varZ (w.heap.size) (by simp) (ng x) A (zl x) c).varZ (w.heap.size + 1) (by simp) (ng n) B (zl n) d).varZ (w.heap.size + 2) (by simp) false none 0 0)
 obtain ⟨c00,c01⟩:=L.b0.a2
 obtain ⟨f00,f01⟩:=L.b0.f2
 obtain ⟨c10,c11⟩:=L.tl.b0.a2
 obtain ⟨c20,c21⟩:=L.tl.tl.b0.a2
 (try go_wp2_with fail)
 refine (H2.out _ _ _ (L.getZ (by simp)) (L.getZ (by simp))).mono ?_
 rintro e w1 ⟨v1, v2, rfl, i1, i2, be⟩
 clear c00 f00 c01 f01 c10 c11 c20 c21
 replace L:=((L.step be).z i2).z i1
 obtain ⟨A7, c7, rfl, _⟩:=i1.form
 obtain ⟨A6, c6, rfl, _⟩:=i2.form
 clear be i1 i2
 have hlt:=L.b0.lt
 obtain ⟨c00,c01⟩:=L.b0.a2
 obtain ⟨f00,f01⟩:=L.b0.f2
 obtain ⟨c10,c11⟩:=L.tl.b0.a2
 obtain ⟨c20,c21⟩:=L.tl.tl.b0.a2
 replace L:=(L.varZ w1.heap.size rfl (ng C) A7 (zl C) c7).varZ (w1.heap.size + 1) (by simp) (ng R) A6 (zl R) c6
 obtain ⟨y0,y1⟩:=L.tl.b0.a2
 obtain ⟨y2,y3⟩:=L.tl.tl.b0.a2
 obtain ⟨y4,y5⟩:=L.tl.tl.b0.f2
 have d1 : w.heap.size + 2 ≠ w1.heap.size:=by omega
 have d2 : w.heap.size + 2 ≠ w1.heap.size + 1:=by omega
 have d3 : w.heap.size + 1 + 1 ≠ w1.heap.size:=by omega
 have d4 : w.heap.size + 1 + 1 ≠ w1.heap.size + 1:=by omega
 go_wp2_with fail
 clear c00 f00 c01 f01 c10 c11 c20 c21
 replace L:=L.pull2
 have LP:=L.putZ (by omega) (by first | (simp; done) | (simp; omega)) (ng C) A7 (zl C) c7
 obtain ⟨k0,k1⟩:=LP.b0.a2
 unfold put2 at k0 k1
 exact bodyPost_ret (v:=.agg #[.bool (ng C), .slice A7 (zl C) c7]) (by simp [results, Tryz.results195, go_sem, k0, k1]) rfl ⟨_, rfl, LP.hz, LP.below⟩
theorem s13overU_any (x n : Int) (vx vn : Value) (w : World) (hx : IsZ w vx x) (hn : IsZ w vn n) (lx : zl x ≤ 1000000) (ln : zl n ≤ 1000000) (h0 : 0 < n) :
  Calls Tryz.prog 195 #[vx, vn, .bool true] w (RetZ w (cdv x n)):=by
 obtain ⟨A, c, rfl, in1⟩:=hx.form
 obtain ⟨B, d, rfl, in2⟩:=hn.form
 have L0:=((Lq.mk0 w).z hn).z hx
 have z1:=zl_neg x
 have z2:=zl_floor (-x) h0
 unfold cdv
 have g1:=fun v W h => rzneg_any x v W h (by omega)
 have g2:=fun v u W h k => rzdivmod_pos (-x) n v u W h k (by omega) (by omega) h0
 have g3:=fun v W h => rzneg_any (-x / n) v W h (by omega)
 obtain ⟨y, hy⟩:=nm9 (-x)
 rw [hy] at g1 g2 g3 ⊢
 obtain ⟨C, hC⟩:=nm9 (y / n)
 obtain ⟨R, hR⟩:=nm9 (y % n)
 rw [hC, hR] at g2
 rw [hC] at g3 ⊢
 obtain ⟨E, hE⟩:=nm9 (-C)
 rw [hE] at g3 ⊢
 have H1:=Hd9 g1
 have H2:=Hd9 g2
 have H3:=Hd9 g3
 clear g1 g2 g3 hC hR hE hy hx hn in1 in2 h0 z1 z2
 go_enter Tryz.func195, Tryz.ntmps195
 go_wp2_with fail
 have L:=(((L0.varZ (w.heap.size) (by simp) (ng x) A (zl x) c).varZ (w.heap.size + 1) (by simp) (ng n) B (zl n) d).varZ (w.heap.size + 2) (by simp) false none 0 0)
 obtain ⟨c00,c01⟩:=L.b0.a2
 obtain ⟨f00,f01⟩:=L.b0.f2
 obtain ⟨c10,c11⟩:=L.tl.b0.a2
 obtain ⟨c20,c21⟩:=L.tl.tl.b0.a2
 (try go_wp2_with fail)
 clear c00 f00 c01 f01 c10 c11 c20 c21
 obtain ⟨V, hV⟩:=nm9 (((w.alloc (.cells #[.bool (ng x), .slice A (zl x) c] 24)).alloc (.cells #[.bool (ng n), .slice B (zl n) d] 24)).alloc (.cells #[.bool false, .slice none 0 0] 24))
 rw [hV] at L ⊢
 clear hV
 have Q0:=Hd9 (fun Z (hZ : Below V.heap.size V Z) => (L.tl.tl.b0.mono hZ).c20)
 have Q1:=Hd9 (fun Z (hZ : Below V.heap.size V Z) => (L.tl.tl.b0.mono hZ).c21)
 have Q2:=Hd9 (fun Z (hZ : Below V.heap.size V Z) => (L.tl.b0.mono hZ).c20)
 have Q3:=Hd9 (fun Z (hZ : Below V.heap.size V Z) => (L.tl.b0.mono hZ).c21)
 have hgx0:=L.b0.lt
 have D0 : Dq V V [] [(.agg #[.bool (ng x), .slice A (zl x) c], x), (.agg #[.bool (ng n), .slice B (zl n) d], n)] [] []:=⟨((Lq.mk0 V).z (L.getZ (by simp))).z (L.getZ (by simp)), List.nodup_nil, fun p hp => by cases hp⟩
 have LL:=Hd9 L
 clear L
 have D:=D0.drew
 obtain ⟨m, hmw⟩:=nm9 (V.heap.size)
 have hz0 : m ≤ V.heap.size:=by omega
 have hgx : w.heap.size < m:=by omega
 have hgy : w.heap.size + 1 < m:=by omega
 have hmd : V.drew.heap.size = m:=hmw
 go_cut [7, 8, 9] from 14 to 21 (fun s3 s4 s5 wx => s5 = .bool true ∧ Made2Z V C R s3 s4 wx)
 case first =>
  go_region_held3 (fun w' => w'.cell? ⟨w.heap.size, 0, none⟩ = some (.bool (ng x)) ∧ w'.cell? ⟨w.heap.size, 1, none⟩ = some (.slice A (zl x) c) ∧ w'.cell? ⟨(w.heap.size + 1), 0, none⟩ = some (.bool (ng n)) ∧ w'.cell? ⟨(w.heap.size + 1), 1, none⟩ = some (.slice B (zl n) d)) (((try dsimp only); refine ⟨?_, ?_, ?_, ?_⟩ <;> (repeat (first | (with_reducible exact Q0.out _ D.lq.below) | (with_reducible exact Q0.out _ D0.lq.below) | (with_reducible exact Q1.out _ D.lq.below) | (with_reducible exact Q1.out _ D0.lq.below) | (with_reducible exact Q2.out _ D.lq.below) | (with_reducible exact Q2.out _ D0.lq.below) | (with_reducible exact Q3.out _ D.lq.below) | (with_reducible exact Q3.out _ D0.lq.below) | (with_reducible refine c_alloc _ ?_) | (with_reducible refine c_drew ?_) | (with_reducible refine c_set ?_ (by assumption) ?_) | omega)))) (first | (go_at_call 112; (with_reducible refine (H1.out _ _ ?_).mono ?_); (· (first | ((with_reducible refine D.getZ ?_) <;> (repeat (first | (with_reducible exact mS) | apply mT))) | ((with_reducible refine (D.boxZ false none 0 0).getZ ?_) <;> (repeat (first | (with_reducible exact mS) | apply mT))) | ((with_reducible refine (D.boxZ2 false none 0 0 false none 0 0).getZ ?_) <;> (repeat (first | (with_reducible exact mS) | apply mT))) | ((with_reducible refine (D0.boxZ false none 0 0).drew.getZ ?_) <;> (repeat (first | (with_reducible exact mS) | apply mT))) | ((with_reducible refine (D0.boxZ2 false none 0 0 false none 0 0).drew.getZ ?_) <;> (repeat (first | (with_reducible exact mS) | apply mT))))); rintro e9 wh ⟨vh, rfl, iz, be⟩; (first | (replace D:=D.step be) | (replace D:=(D.boxMZ hmd false none 0 0).step be) | (replace D:=(D.boxMZ2 hmd false none 0 0 false none 0 0).step be) | (replace D:=(D.boxZ false none 0 0).step be) | (replace D:=(D.boxZ2 false none 0 0 false none 0 0).step be)); have hz:=be.size; (try simp at hz); replace D:=D.z iz; obtain ⟨A8, c8, rfl, _⟩:=iz.form; clear iz; (try (obtain ⟨q000,q001⟩:=D.lq.b0.a2; obtain ⟨q002,q003⟩:=D.lq.b0.f2)); (try (have q010:=(D.alloc (.cells #[.bool false, .slice none 0 0] 24)).lq.b0.c20; have q011:=(D.alloc (.cells #[.bool false, .slice none 0 0] 24)).lq.b0.c21; have q012:=(D.alloc (.cells #[.bool false, .slice none 0 0] 24)).lq.b0.fr 0; have q013:=(D.alloc (.cells #[.bool false, .slice none 0 0] 24)).lq.b0.fr 1)); (try (have q020:=((D.alloc (.cells #[.bool false, .slice none 0 0] 24)).alloc (.cells #[.bool false, .slice none 0 0] 24)).lq.b0.c20; have q021:=((D.alloc (.cells #[.bool false, .slice none 0 0] 24)).alloc (.cells #[.bool false, .slice none 0 0] 24)).lq.b0.c21; have q022:=((D.alloc (.cells #[.bool false, .slice none 0 0] 24)).alloc (.cells #[.bool false, .slice none 0 0] 24)).lq.b0.fr 0; have q023:=((D.alloc (.cells #[.bool false, .slice none 0 0] 24)).alloc (.cells #[.bool false, .slice none 0 0] 24)).lq.b0.fr 1)); (try (obtain ⟨q100,q101⟩:=D.lq.tl.b0.a2; obtain ⟨q102,q103⟩:=D.lq.tl.b0.f2)); (try (have q110:=(D.alloc (.cells #[.bool false, .slice none 0 0] 24)).lq.tl.b0.c20; have q111:=(D.alloc (.cells #[.bool false, .slice none 0 0] 24)).lq.tl.b0.c21; have q112:=(D.alloc (.cells #[.bool false, .slice none 0 0] 24)).lq.tl.b0.fr 0; have q113:=(D.alloc (.cells #[.bool false, .slice none 0 0] 24)).lq.tl.b0.fr 1)); (try (have q120:=((D.alloc (.cells #[.bool false, .slice none 0 0] 24)).alloc (.cells #[.bool false, .slice none 0 0] 24)).lq.tl.b0.c20; have q121:=((D.alloc (.cells #[.bool false, .slice none 0 0] 24)).alloc (.cells #[.bool false, .slice none 0 0] 24)).lq.tl.b0.c21; have q122:=((D.alloc (.cells #[.bool false, .slice none 0 0] 24)).alloc (.cells #[.bool false, .slice none 0 0] 24)).lq.tl.b0.fr 0; have q123:=((D.alloc (.cells #[.bool false, .slice none 0 0] 24)).alloc (.cells #[.bool false, .slice none 0 0] 24)).lq.tl.b0.fr 1)); (try obtain ⟨na, nb, nc, nd, nl⟩:=D.n0); (try obtain ⟨ne, nf, ng', nh, nm⟩:=D.n1); (try obtain ⟨ni, nj⟩:=D.n01)) | (go_at_call 194; (with_reducible refine (H2.out _ _ _ ?_ ?_).mono ?_); (· (first | ((with_reducible refine D.getZ ?_) <;> (repeat (first | (with_reducible exact mS) | apply mT))) | ((with_reducible refine (D.boxZ false none 0 0).getZ ?_) <;> (repeat (first | (with_reducible exact mS) | apply mT))) | ((with_reducible refine (D.boxZ2 false none 0 0 false none 0 0).getZ ?_) <;> (repeat (first | (with_reducible exact mS) | apply mT))) | ((with_reducible refine (D0.boxZ false none 0 0).drew.getZ ?_) <;> (repeat (first | (with_reducible exact mS) | apply mT))) | ((with_reducible refine (D0.boxZ2 false none 0 0 false none 0 0).drew.getZ ?_) <;> (repeat (first | (with_reducible exact mS) | apply mT))))); (· (first | ((with_reducible refine D.getZ ?_) <;> (repeat (first | (with_reducible exact mS) | apply mT))) | ((with_reducible refine (D.boxZ false none 0 0).getZ ?_) <;> (repeat (first | (with_reducible exact mS) | apply mT))) | ((with_reducible refine (D.boxZ2 false none 0 0 false none 0 0).getZ ?_) <;> (repeat (first | (with_reducible exact mS) | apply mT))) | ((with_reducible refine (D0.boxZ false none 0 0).drew.getZ ?_) <;> (repeat (first | (with_reducible exact mS) | apply mT))) | ((with_reducible refine (D0.boxZ2 false none 0 0 false none 0 0).drew.getZ ?_) <;> (repeat (first | (with_reducible exact mS) | apply mT))))); rintro e9 wh ⟨vh, vj, rfl, iz, iy, be⟩; (first | (replace D:=D.step be) | (replace D:=(D.boxMZ hmd false none 0 0).step be) | (replace D:=(D.boxMZ2 hmd false none 0 0 false none 0 0).step be) | (replace D:=(D.boxZ false none 0 0).step be) | (replace D:=(D.boxZ2 false none 0 0 false none 0 0).step be)); have hzz:=be.size; (try simp at hzz); replace D:=(D.z iy).z iz; obtain ⟨A7, c7, rfl, _⟩:=iz.form; obtain ⟨A6, c6, rfl, _⟩:=iy.form; clear iz iy; (try (obtain ⟨q000,q001⟩:=D.lq.b0.a2; obtain ⟨q002,q003⟩:=D.lq.b0.f2)); (try (have q010:=(D.alloc (.cells #[.bool false, .slice none 0 0] 24)).lq.b0.c20; have q011:=(D.alloc (.cells #[.bool false, .slice none 0 0] 24)).lq.b0.c21; have q012:=(D.alloc (.cells #[.bool false, .slice none 0 0] 24)).lq.b0.fr 0; have q013:=(D.alloc (.cells #[.bool false, .slice none 0 0] 24)).lq.b0.fr 1)); (try (have q020:=((D.alloc (.cells #[.bool false, .slice none 0 0] 24)).alloc (.cells #[.bool false, .slice none 0 0] 24)).lq.b0.c20; have q021:=((D.alloc (.cells #[.bool false, .slice none 0 0] 24)).alloc (.cells #[.bool false, .slice none 0 0] 24)).lq.b0.c21; have q022:=((D.alloc (.cells #[.bool false, .slice none 0 0] 24)).alloc (.cells #[.bool false, .slice none 0 0] 24)).lq.b0.fr 0; have q023:=((D.alloc (.cells #[.bool false, .slice none 0 0] 24)).alloc (.cells #[.bool false, .slice none 0 0] 24)).lq.b0.fr 1)); (try (obtain ⟨q100,q101⟩:=D.lq.tl.b0.a2; obtain ⟨q102,q103⟩:=D.lq.tl.b0.f2)); (try (have q110:=(D.alloc (.cells #[.bool false, .slice none 0 0] 24)).lq.tl.b0.c20; have q111:=(D.alloc (.cells #[.bool false, .slice none 0 0] 24)).lq.tl.b0.c21; have q112:=(D.alloc (.cells #[.bool false, .slice none 0 0] 24)).lq.tl.b0.fr 0; have q113:=(D.alloc (.cells #[.bool false, .slice none 0 0] 24)).lq.tl.b0.fr 1)); (try (have q120:=((D.alloc (.cells #[.bool false, .slice none 0 0] 24)).alloc (.cells #[.bool false, .slice none 0 0] 24)).lq.tl.b0.c20; have q121:=((D.alloc (.cells #[.bool false, .slice none 0 0] 24)).alloc (.cells #[.bool false, .slice none 0 0] 24)).lq.tl.b0.c21; have q122:=((D.alloc (.cells #[.bool false, .slice none 0 0] 24)).alloc (.cells #[.bool false, .slice none 0 0] 24)).lq.tl.b0.fr 0; have q123:=((D.alloc (.cells #[.bool false, .slice none 0 0] 24)).alloc (.cells #[.bool false, .slice none 0 0] 24)).lq.tl.b0.fr 1)); (try obtain ⟨na, nb, nc, nd, nl⟩:=D.n0); (try obtain ⟨ne, nf, ng', nh, nm⟩:=D.n1); (try obtain ⟨ni, nj⟩:=D.n01)))
  all_goals
   go_wp2_with fail
   go_meet
   refine ⟨rfl, ?_⟩
   first
   | ((with_reducible refine made2z_a D ?_ ?_) <;> (repeat (first | (with_reducible exact mS) | apply mT)))
   | ((with_reducible refine made2z_b D ?_ ?_) <;> (repeat (first | (with_reducible exact mS) | apply mT)))
   | ((with_reducible refine made2z_c D ?_ ?_) <;> (repeat (first | (with_reducible exact mS) | apply mT)))
   | ((with_reducible refine made2z_d D ?_ ?_) <;> (repeat (first | (with_reducible exact mS) | apply mT)))
   | ((with_reducible refine made2z_e D ?_ ?_) <;> (repeat (first | (with_reducible exact mS) | apply mT)))
   | ((with_reducible refine made2z_f D ?_ ?_) <;> (repeat (first | (with_reducible exact mS) | apply mT)))
 case rest =>
  obtain ⟨rfl, g1, g2, A1, c1, A2, c2, rfl, rfl, hg1, hg2, hg3, bw, hb1, hb2, hz1, hz2⟩:=hcut
  have hg4:=LL.out.b0.lt
  have L:=((((LL.out.step bw).z hz2).z hz1).b hb2).b hb1
  clear D D0 hmd hz0 hgx hgy Q0 Q1 Q2 Q3 LL hb1 hb2 hz1 hz2 bw
  have e1 : w.heap.size + 2 ≠ g1:=by omega
  have e2 : w.heap.size + 2 ≠ g2:=by omega
  have e3 : w.heap.size + 1 + 1 ≠ g1:=by omega
  generalize wc = wd at *
  obtain ⟨c00,c01⟩:=L.b0.a2
  (try go_wp2_with fail)
  refine (H3.out _ _ (L.getZ (v:=.agg #[.bool (ng C), .slice A1 (zl C) c1]) (by simp))).mono ?_
  rintro e w6 ⟨v1, rfl, iz, be⟩
  clear c00 c01
  replace L:=(L.step be).z iz
  obtain ⟨A9, c9, rfl, _⟩:=iz.form
  clear be iz
  replace L:=L.pull2
  obtain ⟨c00,c01⟩:=L.b0.a2
  obtain ⟨f00,f01⟩:=L.b0.f2
  (try go_wp2_with fail)
  have LP:=L.putZ (by omega) (by first | (simp; done) | (simp; omega)) (ng E) A9 (zl E) c9
  obtain ⟨k0,k1⟩:=LP.b0.a2
  unfold put2 at k0 k1
  exact bodyPost_ret (v:=.agg #[.bool (ng E), .slice A9 (zl E) c9]) (by simp [results, Tryz.results195, go_sem, k0, k1]) rfl ⟨_, rfl, LP.hz, LP.below⟩
def RowZ (w : World) (v : Value) (l : List Int) : Prop:=∃ g c, v = .slice (some ⟨g, 0, none⟩) l.length c ∧ g < w.heap.size ∧ ∀ (j : Nat) (p : Int), l[j]? = some p → ∃ A c, w.cell? ⟨g, 2 * j, none⟩ = some (.bool (ng p)) ∧ w.cell? ⟨g, 2 * j + 1, none⟩ = some (.slice A (zl p) c) ∧ IsZ w (.agg #[.bool (ng p), .slice A (zl p) c]) p
theorem RowZ.mono {w w' : World} {v : Value} {l : List Int} (h : RowZ w v l) (hb : Below w.heap.size w w') : RowZ w' v l:=by
 obtain ⟨g, c, r, hg, h⟩:=h
 refine ⟨g, c, r, Nat.lt_of_lt_of_le hg hb.size, fun j p hp => ?_⟩
 obtain ⟨A, c, h1, h2, h3⟩:=h j p hp
 exact ⟨A, c, (hb.cell (p:=⟨g, 2 * j, none⟩) hg).trans h1, (hb.cell (p:=⟨g, 2 * j + 1, none⟩) hg).trans h2, h3.mono hb⟩
def IsLstZ (x : Int) (l : List Int) : Prop:=x ∈ l ∧ ∀ p ∈ l, x ≤ p
def IsMstZ (x : Int) (l : List Int) : Prop:=x ∈ l ∧ ∀ p ∈ l, p ≤ x
theorem lst_eq {x : Int} {l : List Int} {p : Int} (h : IsLstZ x l) (hp : p ∈ l) (h2 : ∀ q ∈ l, p ≤ q) : p = x:=Int.le_antisymm (h2 x h.1) (h.2 p hp)
theorem mst_eq {x : Int} {l : List Int} {p : Int} (h : IsMstZ x l) (hp : p ∈ l) (h2 : ∀ q ∈ l, q ≤ p) : p = x:=Int.le_antisymm (h.2 p hp) (h2 x h.1)
def LoopZ (l : List Int) (t : Nat) (a1 a2 : Int) : Prop:=a1 ∈ l ∧ a2 ∈ l ∧ ∀ (j : Nat) (p : Int), j < t → l[j]? = some p → a1 ≤ p ∧ p ≤ a2
theorem LoopZ.step {l : List Int} {t : Nat} {a1 a2 a b1 b2 : Int} (h : LoopZ l t a1 a2) (hp : l[t]? = some a) (m1 : b1 ∈ l) (m2 : b2 ∈ l) (x1 : b1 ≤ a1) (x2 : b1 ≤ a) (y1 : a2 ≤ b2) (y2 : a ≤ b2) : LoopZ l (t + 1) b1 b2:=by
 refine ⟨m1, m2, fun j p hj hjp => ?_⟩
 rcases Nat.lt_or_ge j t with h1 | h1
 ·have:=h.2.2 j p h1 hjp
  exact ⟨Int.le_trans x1 this.1, Int.le_trans this.2 y1⟩
 ·obtain rfl : j = t:=by omega
  rw [hp] at hjp
  obtain rfl:=Option.some.inj hjp
  exact ⟨x2, y2⟩
theorem LoopZ.all {l : List Int} {a1 a2 : Int} {n : Nat} (hn : l.length = n) (h : LoopZ l n a1 a2) : (∀ q ∈ l, a1 ≤ q) ∧ ∀ q ∈ l, q ≤ a2:=by
 constructor <;> intro q hq <;> obtain ⟨j, hj, e⟩:=List.getElem_of_mem hq
 ·exact (h.2.2 j q (by omega) (by rw [← e]; exact List.getElem?_eq_getElem hj)).1
 ·exact (h.2.2 j q (by omega) (by rw [← e]; exact List.getElem?_eq_getElem hj)).2
theorem Lq.twoZ {w0 w : World} {ns : List (Value × Nat)} {zs : List (Value × Int)} {qs : List (Value × Int × Nat)} {bs : List (Nat × TypeId × Array Value)} (h : Lq w0 w ns zs qs bs) {p q : Value × Int} {b c : Nat × TypeId × Array Value} (hp : p ∈ zs) (hq : q ∈ zs) (hb : b ∈ bs) (hc : c ∈ bs) : Lq w0 w [] [p, q] [] [b, c]:=
 ⟨h.below, fun _ x => (by cases x), fun x hx => h.zs x (by simp only [List.mem_cons, List.not_mem_nil, or_false] at hx; rcases hx with rfl | rfl <;> assumption), fun _ x => (by cases x), fun x hx => h.bs x (by simp only [List.mem_cons, List.not_mem_nil, or_false] at hx; rcases hx with rfl | rfl <;> assumption)⟩
theorem cmpI_lt0 {x y : Int} : cmpI x y < 0 ↔ x < y:=by
 unfold cmpI
 (repeat' split) <;> omega
theorem cmpI_gt0 {x y : Int} : 0 < cmpI x y ↔ y < x:=by
 unfold cmpI
 (repeat' split) <;> omega

theorem s13hull_any (l : List Int) (lo hi n : Int) (vl vn : Value) (w : World) (hl : RowZ w vl l) (hn : IsZ w vn n) (h0 : 0 < l.length) (hsz : l.length ≤ 1000) (hb : ∀ p ∈ l, zl p ≤ 10000) (hlo : IsLstZ lo l) (hhi : IsMstZ hi l) (ln : zl n ≤ 10000) (hn0 : 0 < n) :
  Calls Tryz.prog 140 #[vl, vn] w (RetSp w (lo / n) (cdv hi n)):=by
 obtain ⟨g, c, rfl, hg, hrow⟩:=hl
 obtain ⟨N, cn, rfl, _⟩:=hn.form
 have HB:=Hd9 hb
 have HLO:=Hd9 hlo
 have HHI:=Hd9 hhi
 have k1:=hb lo hlo.1
 have k2:=hb hi hhi.1
 have o1:=fun v u W h k => s13overD_any lo n v u W h k (by omega) (by omega) hn0
 have o2:=fun v u W h k => s13overU_any hi n v u W h k (by omega) (by omega) hn0
 obtain ⟨X, hX⟩:=nm9 (lo / n)
 obtain ⟨Y, hY⟩:=nm9 (cdv hi n)
 rw [hX] at o1 ⊢
 rw [hY] at o2 ⊢
 have O1:=Hd9 o1
 have O2:=Hd9 o2
 clear o1 o2 hX hY k1 k2
 clear hb hlo hhi hn0
 obtain ⟨a0, hp0⟩ : ∃ p, l[0]? = some p:=⟨l[0], List.getElem?_eq_getElem h0⟩
 obtain ⟨A0, c0, r0, r1, r3⟩:=hrow 0 _ hp0
 have HM0:=Hd9 (List.mem_of_getElem? hp0)
 rw [Nat.mul_zero] at r0 r1
 obtain ⟨k, hk⟩:=nm9 (l.length)
 rw [hk] at h0 hsz ⊢
 have hk0 : (0 : Int) < (k : Int):=by omega
 have HN:=Hd9 hk
 have HROW0:=Hd9 hrow
 clear hp0 hk hrow
 go_enter Tryz.func140, Tryz.ntmps140
 go_wp2_with fail
 have L:=(((((Lq.mk0 w).z hn).z r3).varZ (w.heap.size) (by simp) (ng n) N (zl n) cn).varS (w.heap.size + 1) (by simp) false none 0 0 false none 0 0)
 obtain ⟨c00,c01,c02,c03⟩:=L.b0.a4
 obtain ⟨f00,f01,f02,f03⟩:=L.b0.f4
 obtain ⟨c10,c11⟩:=L.tl.b0.a2
 (try go_wp2_with fail)
 clear c00 f00 c01 f01 c02 f02 c03 f03 c10 c11
 obtain ⟨V, hV⟩:=nm9 ((w.alloc (.cells #[.bool (ng n), .slice N (zl n) cn] 24)).alloc (.cells #[.bool false, .slice none 0 0, .bool false, .slice none 0 0] 79))
 rw [hV] at L ⊢
 clear hV
 have hwV:=L.b0.lt
 have hgV : g < V.heap.size:=by omega
 have HROW:=Hd9 (fun Z (hZ : Below V.heap.size V Z) (j : Nat) (p : Int) (hp : l[j]? = some p) => (show ∃ A c, Z.cell? ⟨g, 2 * j, none⟩ = some (.bool (ng p)) ∧ Z.cell? ⟨g, 2 * j + 1, none⟩ = some (.slice A (zl p) c) ∧ IsZ Z (.agg #[.bool (ng p), .slice A (zl p) c]) p from by
  obtain ⟨A, c, x1, x2, x4⟩:=HROW0.out j p hp
  have hbz:=L.below.trans (hZ.mono L.below.size)
  exact ⟨A, c, (hbz.cell (p:=⟨g, 2 * j, none⟩) hg).trans x1, (hbz.cell (p:=⟨g, 2 * j + 1, none⟩) hg).trans x2, x4.mono hbz⟩))
 have q0:=(L.below.cell (p:=⟨g, 0, none⟩) hg).trans r0
 have q1:=(L.below.cell (p:=⟨g, 0 + 1, none⟩) hg).trans r1
 rw [Nat.zero_add] at q1
 have Q0:=Hd9 (fun Z (hZ : Below V.heap.size V Z) => (hZ.cell (p:=⟨g, 0, none⟩) hgV).trans q0)
 have Q1:=Hd9 (fun Z (hZ : Below V.heap.size V Z) => (hZ.cell (p:=⟨g, 1, none⟩) hgV).trans q1)
 clear q0 q1 r0 r1 r3 HROW0 hn
 have D0 : Dq V V [] [(.agg #[.bool (ng a0), .slice A0 (zl a0) c0], a0)] [] []:=⟨(Lq.mk0 V).z (L.getZ (by simp)), List.nodup_nil, fun p hp => by cases hp⟩
 have D:=D0.drew
 have LL:=Hd9 L
 clear L
 obtain ⟨K, hK⟩:=nm9 (V.heap.size)
 have hz0 : K ≤ V.heap.size:=by omega
 have hcg : g < K:=by omega
 have hmd : V.drew.heap.size = K:=hK
 go_cut [5, 6] from 9 to 14 (fun s6 s7 wx => Made2Z V a0 a0 s6 s7 wx)
 case first =>
  go_region_held3 (fun w' => w'.cell? ⟨g, 0, none⟩ = some (.bool (ng a0)) ∧ w'.cell? ⟨g, 1, none⟩ = some (.slice A0 (zl a0) c0)) (((try dsimp only); refine ⟨?_, ?_⟩ <;> (repeat (first | (with_reducible exact Q0.out _ D.lq.below) | (with_reducible exact Q0.out _ D0.lq.below) | (with_reducible exact Q1.out _ D.lq.below) | (with_reducible exact Q1.out _ D0.lq.below) | (with_reducible refine c_alloc _ ?_) | (with_reducible refine c_drew ?_) | (with_reducible refine c_set ?_ (by assumption) ?_) | omega)))) (fail)
  all_goals
   go_wp2_with fail
   go_meet
   have E1:=(D0.boxZ2 (ng a0) A0 (zl a0) c0 (ng a0) A0 (zl a0) c0).drew
   rw [hK] at E1
   first
   | exact made2z_of E1.swap (by simp) (by simp)
   | exact made2z_of E1 (by simp) (by simp)
 case rest =>
  obtain ⟨g5, g6, A1, c1, A2, c2, rfl, rfl, hg5, hg6, hg56, bw, hb1, hb2, hq1, hq2⟩:=hcut
  have L:=(((((Lq.mk0 V).step bw).z hq2).z hq1).b hb2).b hb1
  clear D D0 hmd hz0 hK hb1 hb2 hq1 hq2 bw Q0 Q1 hcg
  generalize wc = wd at *
  have HF:=Hd9 (show LoopZ l 0 a0 a0 from ⟨HM0.out, HM0.out, fun j p hj => absurd hj (Nat.not_lt_zero j)⟩)
  (try go_wp2_with fail)
  go_loopw [17] (fun i wr => ∃ (t : Nat) (a1 : Int) (A1 : Option Addr) (c1 : Nat) (a2 : Int) (A2 : Option Addr) (c2 : Nat), i = .int .i64 (t : Int) ∧ t ≤ k ∧ Lq V wr [] [(.agg #[.bool (ng a1), .slice A1 (zl a1) c1], a1), (.agg #[.bool (ng a2), .slice A2 (zl a2) c2], a2)] [] [(g5, 24, #[.bool (ng a1), .slice A1 (zl a1) c1]), (g6, 24, #[.bool (ng a2), .slice A2 (zl a2) c2])] ∧ Hid (LoopZ l t a1 a2)) (fun i _ => k - (intOf i).toNat)
  case atStart => exact ⟨0, a0, A1, c1, a0, A2, c2, rfl, by omega, L, HF⟩
  case round =>
   clear L HF
   obtain ⟨t, a1, A1, c1, a2, A2, c2, rfl, ht, L, HF⟩:=hrel
   rcases Nat.eq_or_lt_of_le ht with rfl | ht3
   ·have ha:=HF.out.all HN.out
    have el:=lst_eq HLO.out HF.out.1 ha.1
    have eh:=mst_eq HHI.out HF.out.2.1 ha.2
    subst el eh
    have hv6:=L.tl.b0
    have hv5:=L.b0
    have L:=(((((LL.out.step L.below).z (L.getZ (v:=.agg #[.bool (ng a2), .slice A2 (zl a2) c2]) (x:=a2) (by simp))).z (L.getZ (v:=.agg #[.bool (ng a1), .slice A1 (zl a1) c1]) (x:=a1) (by simp))).b hv6).b hv5).pull2
    clear hv5 hv6 HF HROW LL
    have e1 : w.heap.size + 1 ≠ g5:=by omega
    have e2 : w.heap.size + 1 ≠ g6:=by omega
    (try go_wp2_with fail)
    replace L:=L.drew
    obtain ⟨c00,c01,c02,c03⟩:=L.b0.a4
    obtain ⟨f00,f01,f02,f03⟩:=L.b0.f4
    obtain ⟨c10,c11⟩:=L.tl.b0.a2
    obtain ⟨c20,c21⟩:=L.tl.tl.b0.a2
    obtain ⟨c30,c31⟩:=L.tl.tl.tl.b0.a2
    go_region_held3 (fun w' => w'.cell? ⟨g5, 0, none⟩ = some (.bool (ng a1)) ∧ w'.cell? ⟨g5, 1, none⟩ = some (.slice A1 (zl a1) c1) ∧ w'.cell? ⟨g6, 0, none⟩ = some (.bool (ng a2)) ∧ w'.cell? ⟨g6, 1, none⟩ = some (.slice A2 (zl a2) c2) ∧ w'.cell? ⟨w.heap.size, 0, none⟩ = some (.bool (ng n)) ∧ w'.cell? ⟨w.heap.size, 1, none⟩ = some (.slice N (zl n) cn)) (first | (with_reducible exact ⟨L.tl.b0.c20, L.tl.b0.c21, L.tl.tl.b0.c20, L.tl.tl.b0.c21, L.tl.tl.tl.b0.c20, L.tl.tl.tl.b0.c21⟩) | (have LP:=L.putS (by omega) (by first | (simp; done) | (simp; omega)) (ng X) A8 (zl X) c8 (ng Y) A9 (zl Y) c9; unfold put4 at LP; with_reducible exact ⟨LP.tl.b0.c20, LP.tl.b0.c21, LP.tl.tl.b0.c20, LP.tl.tl.b0.c21, LP.tl.tl.tl.b0.c20, LP.tl.tl.tl.b0.c21⟩) | exact ⟨L.tl.b0.c20, L.tl.b0.c21, L.tl.tl.b0.c20, L.tl.tl.b0.c21, L.tl.tl.tl.b0.c20, L.tl.tl.tl.b0.c21⟩) (first | (go_at_call 195; (with_reducible refine (O1.out _ _ _ ?_ ?_ ).mono ?_); (· (refine L.getZ ?_; (repeat (first | (with_reducible exact mS) | apply mT)))); (· (refine L.getZ ?_; (repeat (first | (with_reducible exact mS) | apply mT)))); rintro e wh ⟨vh, rfl, iz, be⟩; obtain ⟨A8, c8, rfl, in9⟩:=iz.form; replace L:=(L.step be).n in9; clear be iz in9; (try (obtain ⟨x00,x01,x02,x03⟩:=L.b0.a4; obtain ⟨y00,y01,y02,y03⟩:=L.b0.f4))) | (go_at_call 195; (with_reducible refine (O2.out _ _ _ ?_ ?_ ).mono ?_); (· (refine L.getZ ?_; (repeat (first | (with_reducible exact mS) | apply mT)))); (· (refine L.getZ ?_; (repeat (first | (with_reducible exact mS) | apply mT)))); rintro e wh ⟨vh, rfl, iz, be⟩; obtain ⟨A9, c9, rfl, in9⟩:=iz.form; replace L:=(L.step be).n in9; clear be iz in9; (try (obtain ⟨x00,x01,x02,x03⟩:=L.b0.a4; obtain ⟨y00,y01,y02,y03⟩:=L.b0.f4))))
    clear c00 f00 c01 f01 c02 f02 c03 f03 c10 c11 c20 c21 c30 c31
    go_wp2_with fail
    have LP:=L.putS (by omega) (by first | (simp; done) | (simp; omega)) (ng X) A8 (zl X) c8 (ng Y) A9 (zl Y) c9
    obtain ⟨k0,k1,k2,k3⟩:=LP.b0.a4
    unfold put4 at k0 k1 k2 k3
    exact bodyPost_ret (v:=.agg #[.bool (ng X), .slice A8 (zl X) c8, .bool (ng Y), .slice A9 (zl Y) c9]) (by simp [results, Tryz.results140, go_sem, k0, k1, k2, k3]) rfl ⟨_, rfl, isS_n (LP.getN (by simp)) (LP.getN (by simp)), LP.below⟩
   ·obtain ⟨a, hp⟩ : ∃ p, l[t]? = some p:=⟨_, List.getElem?_eq_getElem (by rw [HN.out]; exact ht3)⟩
    obtain ⟨A, cc, e0, e1, iq⟩:=HROW.out _ L.below t _ hp
    rw [Nat.mul_comm 2 t] at e0 e1
    have HP:=Hd9 hp
    have hd:=HB.out _ (List.mem_of_getElem? hp)
    have hd1:=HB.out _ HF.out.1
    have hd2:=HB.out _ HF.out.2.1
    have z1:=fun v u W h1 h2 => rzcmp_any a a1 v u W h1 h2 (by omega) (by omega)
    have z2:=fun v u W h1 h2 => rzcmp_any a a2 v u W h1 h2 (by omega) (by omega)
    have j1:=cmpI_lt0 (x:=a) (y:=a1)
    have j2:=cmpI_gt0 (x:=a) (y:=a2)
    obtain ⟨x1, hx1⟩:=nm9 (cmpI a a1)
    obtain ⟨x2, hx2⟩:=nm9 (cmpI a a2)
    rw [hx1] at z1 j1
    rw [hx2] at z2 j2
    have C1:=Hd9 z1
    have C2:=Hd9 z2
    have J1:=Hd9 j1
    have J2:=Hd9 j2
    have hlt : (t : Int) < (k : Int):=by omega
    have ht0 : (0 : Int) ≤ (t : Int):=by omega
    have hl5:=L.b0.lt
    have hl6:=L.tl.b0.lt
    clear hp z1 z2 j1 j2 hx1 hx2 hd hd1 hd2
    replace L:=(L.z iq).varZ wr.heap.size rfl (ng a) A (zl a) cc
    clear iq
    obtain ⟨cel00,cel01⟩:=L.b0.a2
    obtain ⟨cel10,cel11⟩:=L.tl.b0.a2
    go_wp2_with fail
    obtain ⟨gx, hgx⟩:=nm9 (wr.heap.size)
    rw [hgx] at L hl5 hl6 cel00 cel01 ⊢
    clear hgx e0 e1
    have n1 : g5 ≠ gx:=by omega
    have n2 : g6 ≠ gx:=by omega
    have n3 : g6 ≠ g5:=Ne.symm hg56
    refine (C1.out _ _ _ (L.getZ (v:=.agg #[.bool (ng a), .slice A (zl a) cc]) (x:=a) (by simp)) (L.getZ (v:=.agg #[.bool (ng a1), .slice A1 (zl a1) c1]) (x:=a1) (by simp))).mono ?_
    rintro e w21 ⟨rfl, be⟩
    clear cel00 cel01 cel10 cel11
    replace L:=L.step be
    clear be
    by_cases y1 : x1 < 0
    ·have t1 : decide (x1 < 0) = true:=decide_eq_true y1
     obtain ⟨cel00,cel01⟩:=L.b0.a2
     obtain ⟨f00,f01⟩:=L.b0.f2
     obtain ⟨cel10,cel11⟩:=L.tl.b0.a2
     obtain ⟨f10,f11⟩:=L.tl.b0.f2
     have P:=(L.swap.putZ hg5 (by simp [n1, n2, n3, Ne.symm n1]) (ng a) A (zl a) cc).swap
     obtain ⟨p0,p1⟩:=P.b0.a2
     obtain ⟨p3,p4⟩:=P.tl.tl.b0.a2
     unfold put2 at p0 p1 p3 p4 P
     replace L:=P
     go_wp2_with fail
     refine (C2.out _ _ _ (L.getZ (v:=.agg #[.bool (ng a), .slice A (zl a) cc]) (x:=a) (by simp)) (L.getZ (v:=.agg #[.bool (ng a2), .slice A2 (zl a2) c2]) (x:=a2) (by simp))).mono ?_
     rintro e w22 ⟨rfl, be⟩
     replace L:=L.step be
     clear be
     by_cases y2 : 0 < x2
     ·have t2 : decide (0 < x2) = true:=decide_eq_true y2
      obtain ⟨cel00,cel01⟩:=L.b0.a2
      obtain ⟨f00,f01⟩:=L.b0.f2
      obtain ⟨cel20,cel21⟩:=L.tl.tl.b0.a2
      obtain ⟨f20,f21⟩:=L.tl.tl.b0.f2
      have P:=(L.pull2.putZ hg6 (by simp [n1, n2, n3, Ne.symm n1, Ne.symm n2, Ne.symm n3]) (ng a) A (zl a) cc)
      unfold put2 at P
      replace L:=P
      go_wp2_with fail
      go_roundw
      case rel => exact ⟨t + 1, a, A, cc, a, A, cc, by go_num, by omega, L.twoZ (by simp) (by simp) (by simp) (by simp), Hd9 (HF.out.step HP.out (List.mem_of_getElem? HP.out) (List.mem_of_getElem? HP.out) (Int.le_of_lt (J1.out.1 y1)) (Int.le_refl _) (Int.le_of_lt (J2.out.1 y2)) (Int.le_refl _))⟩
      case measure => simp [intOf]; omega
     ·have t2 : decide (0 < x2) = false:=decide_eq_false y2
      obtain ⟨cel00,cel01⟩:=L.b0.a2
      obtain ⟨f00,f01⟩:=L.b0.f2
      obtain ⟨cel20,cel21⟩:=L.tl.tl.b0.a2
      obtain ⟨f20,f21⟩:=L.tl.tl.b0.f2
      go_wp2_with fail
      go_roundw
      case rel => exact ⟨t + 1, a, A, cc, a2, A2, c2, by go_num, by omega, L.twoZ (by simp) (by simp) (by simp) (by simp), Hd9 (HF.out.step HP.out (List.mem_of_getElem? HP.out) HF.out.2.1 (Int.le_of_lt (J1.out.1 y1)) (Int.le_refl _) (Int.le_refl _) (Int.not_lt.1 (fun h => absurd (J2.out.2 h) (by omega))))⟩
      case measure => simp [intOf]; omega
    ·have t1 : decide (x1 < 0) = false:=decide_eq_false y1
     obtain ⟨cel00,cel01⟩:=L.b0.a2
     obtain ⟨f00,f01⟩:=L.b0.f2
     obtain ⟨cel20,cel21⟩:=L.tl.tl.b0.a2
     go_wp2_with fail
     refine (C2.out _ _ _ (L.getZ (v:=.agg #[.bool (ng a), .slice A (zl a) cc]) (x:=a) (by simp)) (L.getZ (v:=.agg #[.bool (ng a2), .slice A2 (zl a2) c2]) (x:=a2) (by simp))).mono ?_
     rintro e w22 ⟨rfl, be⟩
     replace L:=L.step be
     clear be
     by_cases y2 : 0 < x2
     ·have t2 : decide (0 < x2) = true:=decide_eq_true y2
      obtain ⟨cel00,cel01⟩:=L.b0.a2
      obtain ⟨f00,f01⟩:=L.b0.f2
      obtain ⟨cel20,cel21⟩:=L.tl.tl.b0.a2
      obtain ⟨f20,f21⟩:=L.tl.tl.b0.f2
      have P:=(L.pull2.putZ hg6 (by simp [n1, n2, n3, Ne.symm n1, Ne.symm n2, Ne.symm n3]) (ng a) A (zl a) cc)
      unfold put2 at P
      replace L:=P
      go_wp2_with fail
      go_roundw
      case rel => exact ⟨t + 1, a1, A1, c1, a, A, cc, by go_num, by omega, L.twoZ (by simp) (by simp) (by simp) (by simp), Hd9 (HF.out.step HP.out HF.out.1 (List.mem_of_getElem? HP.out) (Int.le_refl _) (Int.not_lt.1 (fun h => absurd (J1.out.2 h) (by omega))) (Int.le_of_lt (J2.out.1 y2)) (Int.le_refl _))⟩
      case measure => simp [intOf]; omega
     ·have t2 : decide (0 < x2) = false:=decide_eq_false y2
      obtain ⟨cel00,cel01⟩:=L.b0.a2
      obtain ⟨f00,f01⟩:=L.b0.f2
      obtain ⟨cel20,cel21⟩:=L.tl.tl.b0.a2
      obtain ⟨f20,f21⟩:=L.tl.tl.b0.f2
      go_wp2_with fail
      go_roundw
      case rel => exact ⟨t + 1, a1, A1, c1, a2, A2, c2, by go_num, by omega, L.twoZ (by simp) (by simp) (by simp) (by simp), Hd9 (HF.out.step HP.out HF.out.1 HF.out.2.1 (Int.le_refl _) (Int.not_lt.1 (fun h => absurd (J1.out.2 h) (by omega))) (Int.le_refl _) (Int.not_lt.1 (fun h => absurd (J2.out.2 h) (by omega))))⟩
      case measure => simp [intOf]; omega

theorem rowZ_2 {w : World} {g : Nat} {a b : Int} {c d : Nat} {A B : Option Addr} (hv : Var w g 24 #[.bool (ng a), .slice A (zl a) c, .bool (ng b), .slice B (zl b) d]) (h1 : IsN w (.slice A (zl a) c) a.natAbs) (h2 : IsN w (.slice B (zl b) d) b.natAbs) : RowZ w (.slice (some ⟨g, 0, none⟩) 2 2) [a, b]:=by
  refine ⟨g, 2, rfl, hv.lt, fun j p hp => ?_⟩
  match j with
  | 0 =>
    obtain rfl : a = p:=by simpa using hp
    exact ⟨A, c, hv.cell 0, hv.cell 1, isZ_s h1⟩
  | 1 =>
    obtain rfl : b = p:=by simpa using hp
    exact ⟨B, d, hv.cell 2, hv.cell 3, isZ_s h2⟩
  | j + 2 => simp at hp
theorem lst_2 {a b : Int} (h : a ≤ b) : IsLstZ a [a, b]:=⟨by simp, fun p hp => by
 simp only [List.mem_cons, List.not_mem_nil, or_false] at hp
 rcases hp with rfl | rfl <;> omega⟩
theorem mst_2 {a b : Int} (h : a ≤ b) : IsMstZ b [a, b]:=⟨by simp, fun p hp => by
 simp only [List.mem_cons, List.not_mem_nil, or_false] at hp
 rcases hp with rfl | rfl <;> omega⟩

theorem s13over_any (a b n : Int) (vx : Value) (w : World) (hx : IsS w vx a b) (la : zl a ≤ 10000) (lb : zl b ≤ 10000) (hab : a ≤ b) (h1 : 1 ≤ n) (h2 : n ≤ 1000000) :
  Calls Tryz.prog 71 #[vx, .int .i64 n] w (RetSp w (a / n) (cdv b n)):=by
 obtain ⟨A, c, B, d, rfl, hn1, hn2⟩:=hx.form
 have L0:=((Lq.mk0 w).n hn2).n hn1
 have h3:=len_le1 (x:=n.natAbs) (by omega)
 have g0:=fun W => rzof_any n W (by omega) (by omega)
 have g1:=fun v u W (h : RowZ W v [a, b]) k => s13hull_any [a, b] a b n v u W h k (by simp) (by simp) (fun p hp => by
  simp only [List.mem_cons, List.not_mem_nil, or_false] at hp
  rcases hp with rfl | rfl <;> assumption) (lst_2 hab) (mst_2 hab) (show zl n ≤ 10000 from Nat.le_trans h3 (by omega)) (by omega)
 obtain ⟨x, hx⟩:=nm9 (a / n)
 obtain ⟨y, hy⟩:=nm9 (cdv b n)
 rw [hx, hy] at g1
 rw [hx, hy]
 have H0:=Hd9 g0
 have H1:=Hd9 g1
 clear g0 g1 hx hy h3 hn1 hn2 la lb hab
 go_enter Tryz.func71, Tryz.ntmps71
 go_wp2_with fail
 have L:=((L0.varS (w.heap.size) (by simp) (ng a) A (zl a) c (ng b) B (zl b) d).varS (w.heap.size + 1) (by simp) false none 0 0 false none 0 0)
 have LB:=L
 replace L:=L.drew
 obtain ⟨c00,c01,c02,c03⟩:=L.b0.a4
 obtain ⟨f00,f01,f02,f03⟩:=L.b0.f4
 obtain ⟨c10,c11,c12,c13⟩:=L.tl.b0.a4
 go_region_held3 (fun w' => w'.cell? ⟨w.heap.size, 0, none⟩ = some (.bool (ng a)) ∧ w'.cell? ⟨w.heap.size, 1, none⟩ = some (.slice A (zl a) c) ∧ w'.cell? ⟨w.heap.size, 2, none⟩ = some (.bool (ng b)) ∧ w'.cell? ⟨w.heap.size, 3, none⟩ = some (.slice B (zl b) d)) (first | (with_reducible exact ⟨L.tl.b0.c40, L.tl.b0.c41, L.tl.b0.c42, L.tl.b0.c43⟩) | (with_reducible exact ⟨L.tl.tl.b0.c40, L.tl.tl.b0.c41, L.tl.tl.b0.c42, L.tl.tl.b0.c43⟩) | (have LN:=(LB.var (w.heap.size + 1 + 1) (by simp) 24 #[.bool (ng a), .slice A (zl a) c, .bool (ng b), .slice B (zl b) d] (plain4 _ _ _ _ _ _ _ _)).drew; with_reducible exact ⟨LN.tl.tl.b0.c40, LN.tl.tl.b0.c41, LN.tl.tl.b0.c42, LN.tl.tl.b0.c43⟩) | (have LN:=L.var _ rfl 24 #[.bool (ng a), .slice A (zl a) c, .bool (ng b), .slice B (zl b) d] (plain4 _ _ _ _ _ _ _ _); with_reducible exact ⟨LN.tl.tl.b0.c40, LN.tl.tl.b0.c41, LN.tl.tl.b0.c42, LN.tl.tl.b0.c43⟩) | (have LP:=L.swap.putS (by omega) (by first | (simp; done) | (simp; omega)) (ng x) A8 (zl x) c8 (ng y) B8 (zl y) d8; unfold put4 at LP; with_reducible exact ⟨LP.tl.tl.b0.c40, LP.tl.tl.b0.c41, LP.tl.tl.b0.c42, LP.tl.tl.b0.c43⟩)) (first | (go_at_call 47; (with_reducible refine (H0.out _).mono ?_); rintro e wh ⟨vh, rfl, iz, be⟩; (first | (replace L:=((LB.var (w.heap.size + 1 + 1) (by simp) 24 #[.bool (ng a), .slice A (zl a) c, .bool (ng b), .slice B (zl b) d] (plain4 _ _ _ _ _ _ _ _)).drew).step be) | (replace L:=(L.var _ rfl 24 #[.bool (ng a), .slice A (zl a) c, .bool (ng b), .slice B (zl b) d] (plain4 _ _ _ _ _ _ _ _)).step be) | (replace L:=L.step be)); obtain ⟨A7, c7, rfl, in9⟩:=iz.form; replace L:=L.n in9; clear be iz in9; (first | (obtain ⟨x00,x01,x02,x03⟩:=L.tl.b0.a4; obtain ⟨y00,y01,y02,y03⟩:=L.tl.b0.f4) | (obtain ⟨x00,x01,x02,x03⟩:=L.b0.a4; obtain ⟨y00,y01,y02,y03⟩:=L.b0.f4) | skip)) | (go_at_call 140; have hl9:=L.b0.lt; have LN:=L.var _ rfl 24 #[.bool (ng a), .slice A (zl a) c, .bool (ng b), .slice B (zl b) d] (plain4 _ _ _ _ _ _ _ _); (with_reducible refine (H1.out _ _ _ ?_ ?_).mono ?_); (· (refine rowZ_2 LN.b0 (LN.getN ?_) (LN.getN ?_) <;> (repeat (first | (with_reducible exact mS) | apply mT)))); (· (refine isZ_s (LN.getN ?_); (repeat (first | (with_reducible exact mS) | apply mT)))); rintro e wh ⟨vh, rfl, iq, be⟩; obtain ⟨A8, c8, B8, d8, rfl, ia, ib⟩:=iq.form; replace L:=((LN.step be).n ib).n ia; clear be iq ia ib; (try (obtain ⟨x00,x01,x02,x03⟩:=L.tl.b0.a4; obtain ⟨y00,y01,y02,y03⟩:=L.tl.b0.f4))) | (go_at_call 140; (with_reducible refine (H1.out _ _ _ ?_ ?_).mono ?_); (· (refine rowZ_2 L.b0 (L.getN ?_) (L.getN ?_) <;> (repeat (first | (with_reducible exact mS) | apply mT)))); (· (refine isZ_s (L.getN ?_); (repeat (first | (with_reducible exact mS) | apply mT)))); rintro e wh ⟨vh, rfl, iq, be⟩; obtain ⟨A8, c8, B8, d8, rfl, ia, ib⟩:=iq.form; replace L:=((L.step be).n ib).n ia; clear be iq ia ib; (try (obtain ⟨x00,x01,x02,x03⟩:=L.tl.b0.a4; obtain ⟨y00,y01,y02,y03⟩:=L.tl.b0.f4))))
 clear c00 f00 c01 f01 c02 f02 c03 f03 c10 c11 c12 c13
 all_goals
  go_wp2_with fail
  replace L:=L.swap
  have LP:=L.putS (by omega) (by first | (simp; done) | (simp; omega)) (ng x) A8 (zl x) c8 (ng y) B8 (zl y) d8
  obtain ⟨k0,k1,k2,k3⟩:=LP.b0.a4
  unfold put4 at k0 k1 k2 k3
  exact bodyPost_ret (v:=.agg #[.bool (ng x), .slice A8 (zl x) c8, .bool (ng y), .slice B8 (zl y) d8]) (by simp [results, Tryz.results71, go_sem, k0, k1, k2, k3]) rfl ⟨_, rfl, isS_n (LP.getN (by simp)) (LP.getN (by simp)), LP.below⟩

theorem plain8 (b1 : Bool) (A1 : Option Addr) (n1 c1 : Nat) (b2 : Bool) (A2 : Option Addr) (n2 c2 : Nat) (b3 : Bool) (A3 : Option Addr) (n3 c3 : Nat) (b4 : Bool) (A4 : Option Addr) (n4 c4 : Nat) : Plain #[.bool b1, .slice A1 n1 c1, .bool b2, .slice A2 n2 c2, .bool b3, .slice A3 n3 c3, .bool b4, .slice A4 n4 c4]:=fun j x => by
 match j with
 | 0 => simp
 | 1 => simp
 | 2 => simp
 | 3 => simp
 | 4 => simp
 | 5 => simp
 | 6 => simp
 | 7 => simp
 | j + 8 => simp
section
variable {w0 w : World} {ns : List (Value × Nat)} {zs : List (Value × Int)} {qs : List (Value × Int × Nat)} {bs : List (Nat × TypeId × Array Value)}
theorem Dq.boxMS (h : Dq w0 w ns zs qs bs) {k : Nat} (hk : w.heap.size = k) (b : Bool) (A : Option Addr) (p c : Nat) (b' : Bool) (B : Option Addr) (q d : Nat) : Dq w0 (w.alloc (.cells #[.bool b, .slice A p c, .bool b', .slice B q d] 79)) ns zs qs ((k, 79, #[.bool b, .slice A p c, .bool b', .slice B q d]) :: bs):=by
 subst hk; exact h.boxS b A p c b' B q d
theorem Dq.putS (g : Nat) {b1 b2 : Bool} {s t : Value} (h : Dq w0 w ns zs qs ((g, 79, #[.bool b1, s, .bool b2, t]) :: bs)) (b : Bool) (A : Option Addr) (p c : Nat) (b' : Bool) (B : Option Addr) (q d : Nat) : Dq w0 (put4 w g b (.slice A p c) b' (.slice B q d)) ns zs qs ((g, 79, #[.bool b, .slice A p c, .bool b', .slice B q d]) :: bs):=by
 have hn:=h.nodup
 rw [List.map_cons, List.nodup_cons] at hn
 refine ⟨h.lq.putS (h.ge _ (List.mem_cons_self ..)) (fun p hp e => hn.1 (List.mem_map.2 ⟨p, hp, e⟩)) b A p c b' B q d, ?_, fun p hp => ?_⟩
 ·rw [List.map_cons, List.nodup_cons]; exact hn
 ·rcases List.mem_cons.1 hp with rfl | hp
  ·exact h.ge (g, 79, #[.bool b1, s, .bool b2, t]) (List.mem_cons_self ..)
  ·exact h.ge p (List.mem_cons_of_mem _ hp)
theorem Dq.boxR (h : Dq w0 w ns zs qs bs) (b1 : Bool) (A1 : Option Addr) (n1 c1 : Nat) (b2 : Bool) (A2 : Option Addr) (n2 c2 : Nat) (b3 : Bool) (A3 : Option Addr) (n3 c3 : Nat) (b4 : Bool) (A4 : Option Addr) (n4 c4 : Nat) : Dq w0 (w.alloc (.cells #[.bool b1, .slice A1 n1 c1, .bool b2, .slice A2 n2 c2, .bool b3, .slice A3 n3 c3, .bool b4, .slice A4 n4 c4] 24)) ns zs qs ((w.heap.size, 24, #[.bool b1, .slice A1 n1 c1, .bool b2, .slice A2 n2 c2, .bool b3, .slice A3 n3 c3, .bool b4, .slice A4 n4 c4]) :: bs):=by
 refine ⟨h.lq.var w.heap.size rfl _ _ (plain8 _ _ _ _ _ _ _ _ _ _ _ _ _ _ _ _), ?_, fun p hp => ?_⟩
 ·rw [List.map_cons, List.nodup_cons]
  refine ⟨fun hm => ?_, h.nodup⟩
  obtain ⟨p, hp, e⟩:=List.mem_map.1 hm
  have:=(h.lq.bs p hp).lt
  omega
 ·rcases List.mem_cons.1 hp with rfl | hp
  ·exact h.lq.below.size
  ·exact h.ge p hp
theorem Dq.boxSR (h : Dq w0 w ns zs qs bs) (b : Bool) (A : Option Addr) (p c : Nat) (b' : Bool) (B : Option Addr) (q d : Nat) (b1 : Bool) (A1 : Option Addr) (n1 c1 : Nat) (b2 : Bool) (A2 : Option Addr) (n2 c2 : Nat) (b3 : Bool) (A3 : Option Addr) (n3 c3 : Nat) (b4 : Bool) (A4 : Option Addr) (n4 c4 : Nat) : Dq w0 ((w.alloc (.cells #[.bool b, .slice A p c, .bool b', .slice B q d] 79)).alloc (.cells #[.bool b1, .slice A1 n1 c1, .bool b2, .slice A2 n2 c2, .bool b3, .slice A3 n3 c3, .bool b4, .slice A4 n4 c4] 24)) ns zs qs ((w.heap.size + 1, 24, #[.bool b1, .slice A1 n1 c1, .bool b2, .slice A2 n2 c2, .bool b3, .slice A3 n3 c3, .bool b4, .slice A4 n4 c4]) :: (w.heap.size, 79, #[.bool b, .slice A p c, .bool b', .slice B q d]) :: bs):=by
 have:=(h.boxS b A p c b' B q d).boxR b1 A1 n1 c1 b2 A2 n2 c2 b3 A3 n3 c3 b4 A4 n4 c4
 rwa [show (w.alloc (.cells #[.bool b, .slice A p c, .bool b', .slice B q d] 79)).heap.size = w.heap.size + 1 from by simp] at this
theorem Dq.boxRS (h : Dq w0 w ns zs qs bs) (b : Bool) (A : Option Addr) (p c : Nat) (b' : Bool) (B : Option Addr) (q d : Nat) (b1 : Bool) (A1 : Option Addr) (n1 c1 : Nat) (b2 : Bool) (A2 : Option Addr) (n2 c2 : Nat) (b3 : Bool) (A3 : Option Addr) (n3 c3 : Nat) (b4 : Bool) (A4 : Option Addr) (n4 c4 : Nat) : Dq w0 ((w.alloc (.cells #[.bool b1, .slice A1 n1 c1, .bool b2, .slice A2 n2 c2, .bool b3, .slice A3 n3 c3, .bool b4, .slice A4 n4 c4] 24)).alloc (.cells #[.bool b, .slice A p c, .bool b', .slice B q d] 79)) ns zs qs ((w.heap.size + 1, 79, #[.bool b, .slice A p c, .bool b', .slice B q d]) :: (w.heap.size, 24, #[.bool b1, .slice A1 n1 c1, .bool b2, .slice A2 n2 c2, .bool b3, .slice A3 n3 c3, .bool b4, .slice A4 n4 c4]) :: bs):=by
 have:=(h.boxR b1 A1 n1 c1 b2 A2 n2 c2 b3 A3 n3 c3 b4 A4 n4 c4).boxS b A p c b' B q d
 rwa [show (w.alloc (.cells #[.bool b1, .slice A1 n1 c1, .bool b2, .slice A2 n2 c2, .bool b3, .slice A3 n3 c3, .bool b4, .slice A4 n4 c4] 24)).heap.size = w.heap.size + 1 from by simp] at this
end
theorem rowZ_4 {w : World} {g : Nat} {p1 p2 p3 p4 : Int} {c1 c2 c3 c4 : Nat} {A1 A2 A3 A4 : Option Addr} (hv : Var w g 24 #[.bool (ng p1), .slice A1 (zl p1) c1, .bool (ng p2), .slice A2 (zl p2) c2, .bool (ng p3), .slice A3 (zl p3) c3, .bool (ng p4), .slice A4 (zl p4) c4]) (h1 : IsN w (.slice A1 (zl p1) c1) p1.natAbs) (h2 : IsN w (.slice A2 (zl p2) c2) p2.natAbs) (h3 : IsN w (.slice A3 (zl p3) c3) p3.natAbs) (h4 : IsN w (.slice A4 (zl p4) c4) p4.natAbs) : RowZ w (.slice (some ⟨g, 0, none⟩) 4 4) [p1, p2, p3, p4]:=by
  refine ⟨g, 4, rfl, hv.lt, fun j p hp => ?_⟩
  match j with
  | 0 =>
    obtain rfl : p1 = p:=by simpa using hp
    exact ⟨A1, c1, hv.cell 0, hv.cell 1, isZ_s h1⟩
  | 1 =>
    obtain rfl : p2 = p:=by simpa using hp
    exact ⟨A2, c2, hv.cell 2, hv.cell 3, isZ_s h2⟩
  | 2 =>
    obtain rfl : p3 = p:=by simpa using hp
    exact ⟨A3, c3, hv.cell 4, hv.cell 5, isZ_s h3⟩
  | 3 =>
    obtain rfl : p4 = p:=by simpa using hp
    exact ⟨A4, c4, hv.cell 6, hv.cell 7, isZ_s h4⟩
  | j + 4 => simp at hp
theorem lst_4 (a b c d : Int) : IsLstZ (mn4 a b c d) [a, b, c, d]:=by
 unfold mn4
 refine ⟨?_, fun p hp => ?_⟩ <;> simp only [List.mem_cons, List.not_mem_nil, or_false] at * <;> omega
theorem mst_4 (a b c d : Int) : IsMstZ (mx4 a b c d) [a, b, c, d]:=by
 unfold mx4
 refine ⟨?_, fun p hp => ?_⟩ <;> simp only [List.mem_cons, List.not_mem_nil, or_false] at * <;> omega
def Made1S (w0 : World) (a b : Int) (s : Value) (w' : World) : Prop:=∃ g A c B d, s = .pointer (some ⟨g, 0, none⟩) ∧ w0.heap.size ≤ g ∧ Below w0.heap.size w0 w' ∧ Var w' g 79 #[.bool (ng a), .slice A (zl a) c, .bool (ng b), .slice B (zl b) d] ∧ IsN w' (.slice A (zl a) c) a.natAbs ∧ IsN w' (.slice B (zl b) d) b.natAbs
section
variable {w0 w : World} {ns : List (Value × Nat)} {zs : List (Value × Int)} {qs : List (Value × Int × Nat)} {bs : List (Nat × TypeId × Array Value)} {a b : Int} {c d : Nat} {A B : Option Addr}
theorem made1s_of {w' : World} {g : Nat} (D : Dq w0 w' ns zs qs ((g, 79, #[.bool (ng a), .slice A (zl a) c, .bool (ng b), .slice B (zl b) d]) :: bs)) (h : (.slice A (zl a) c, a.natAbs) ∈ ns) (h2 : (.slice B (zl b) d, b.natAbs) ∈ ns) : Made1S w0 a b (.pointer (some ⟨g, 0, none⟩)) w':=
 ⟨g, A, c, B, d, rfl, D.ge _ (List.mem_cons_self ..), D.lq.below, D.lq.b0, D.getN h, D.getN h2⟩
theorem made1s_a (D : Dq w0 w ns zs qs bs) (h : (.slice A (zl a) c, a.natAbs) ∈ ns) (h2 : (.slice B (zl b) d, b.natAbs) ∈ ns) :
  Made1S w0 a b (.pointer (some ⟨w.heap.size, 0, none⟩)) (w.alloc (.cells #[.bool (ng a), .slice A (zl a) c, .bool (ng b), .slice B (zl b) d] 79)):=made1s_of (D.boxS _ _ _ _ _ _ _ _) h h2
theorem made1s_b {g : Nat} {b1 b2 : Bool} {s t : Value} (D : Dq w0 w ns zs qs ((g, 79, #[.bool b1, s, .bool b2, t]) :: bs)) (h : (.slice A (zl a) c, a.natAbs) ∈ ns) (h2 : (.slice B (zl b) d, b.natAbs) ∈ ns) :
  Made1S w0 a b (.pointer (some ⟨g, 0, none⟩)) ((((w.setCell ⟨g, 0, none⟩ (.bool (ng a))).setCell ⟨g, 1, none⟩ (.slice A (zl a) c)).setCell ⟨g, 2, none⟩ (.bool (ng b))).setCell ⟨g, 3, none⟩ (.slice B (zl b) d)):=made1s_of (D.putS g (ng a) A (zl a) c (ng b) B (zl b) d) h h2
end


end Go.Proofs.YtmgbjldogggpcaaGreatDoor
