/- Joined: LnS, LnT, LnP, RdB, LnQ, LnV, RdW, RefCoB, RefAtA, RefCoC, RefCoD, RefCoE, ExS, RefExM, ArPB, ArPD, ArPF, ArDv (what the law leans on). -/
import Derived.Test.YtiddbhhhmeopeaaGreatDoorBaseIW9
import Derived.Test.YtiddbhhhmeopeaaGreatDoorBaseJW9
import Derived.Test.YtiddbhhhmeopeaaGreatDoorBaseDW9
import Derived.Test.YtiddbhhhmeopeaaGreatDoorBaseVW9
import Derived.Test.YtiddbhhhmeopeaaGreatDoorBaseSW9
import Derived.Test.YtiddbhhhmeopeaaGreatDoorBaseWW9
import Derived.Test.YtiddbhhhmeopeaaGreatDoorRefDivModW9
import Derived.Test.YtiddbhhhmeopeaaGreatDoorRefGrBW9
import Derived.Test.YtiddbhhhmeopeaaGreatDoorBaseGW9
import Derived.Test.YtiddbhhhmeopeaaGreatDoorBaseXW9
import Derived.Test.YtiddbhhhmeopeaaGreatDoorBaseZW9
import Derived.Test.YtiddbhhhmeopeaaGreatDoorBaseUW9
import Derived.Test.YtiddbhhhmeopeaaGreatDoorJW91
import Derived.Deep.Cut
import Derived.Deep.CutRange
import Derived.Deep.DrawnRows
import Derived.Deep.RegionHeld3
import Derived.Laws.AppendOwn
import Derived.Laws.OwnMore
import Derived.Lib.SmallJoins
namespace Go.Proofs.YtiddbhhhmeopeaaGreatDoor
set_option maxHeartbeats 64000000
open Go.RowKit
set_option linter.unusedVariables false
set_option linter.unusedSimpArgs false
set_option maxRecDepth 100000
attribute [local go_sem ↓] Go.wp_at_zero Go.wp_at_succ
theorem SpC.div {a b c d:Int} {v:Nat} {s t:Rat} (h:SpC a b v s) (k:SpC c d v t) (hc:0 < c) :
  SpC (mn4 (a * 2 ^ v / c) (cdv (b * 2 ^ v) c) (a * 2 ^ v / d) (cdv (b * 2 ^ v) d)) (mx4 (a * 2 ^ v / c) (cdv (b * 2 ^ v) c) (a * 2 ^ v / d) (cdv (b * 2 ^ v) d)) v (s / t):=by
 have hcd:=k.le
 obtain ⟨h1,h2⟩:=h
 obtain ⟨k1,k2⟩:=k
 have hu:=dq_pos (-(v:Int))
 have tc:=two_cast v
 have c0:0 < dq c (-(v:Int)):=by
  rw [← dq_zero (-(v:Int))]
  exact Rat.lt_of_le_of_ne ((dq_le_iff _ _ _).2 (by omega)) (fun e => by have:=(dq_le_iff c 0 (-(v:Int))).1 (by rw [e];exact Rat.le_refl);omega)
 have t0:0 < t:=by
  refine Rat.not_le.1 fun hle => ?_
  have:=Rat.le_trans k1 hle
  grind
 have st:s / t * t = s:=Rat.div_mul_cancel (Rat.ne_of_gt t0)
 -- lower
 have lo:∀ F e:Int,0 < e → F * e≤a * 2 ^ v → ((0≤F∧t≤dq e (-(v:Int))) ∨ (F≤0∧dq e (-(v:Int))≤t)) → dq F (-(v:Int))≤s / t:=by
  intro F e he hF hcase
  refine le_of_mul t0 ?_
  rw [st]
  refine Rat.le_trans ?_ h1
  have e1:dq F (-(v:Int)) * dq e (-(v:Int))≤dq a (-(v:Int)):=by
   have hF2:=Rat.intCast_le_intCast.2 hF
   rw [Rat.intCast_mul,Rat.intCast_mul] at hF2
   rw [dq_scale F,dq_scale e,dq_scale a]
   have hu2:=Rat.mul_nonneg (Rat.le_of_lt hu) (Rat.le_of_lt hu)
   have:=Rat.mul_le_mul_of_nonneg_right hF2 hu2
   generalize dq 1 (-(v:Int)) = u at *
   generalize (((2:Int) ^ v:Int):Rat) = w at *
   rw [show (F:Rat) * u * ((e:Rat) * u) = (F:Rat) * (e:Rat) * (u * u) by grind]
   refine Rat.le_trans this ?_
   rw [show (a:Rat) * w * (u * u) = (a:Rat) * u * (w * u) by grind,tc,Rat.mul_one]
   exact Rat.le_refl
  refine Rat.le_trans ?_ e1
  rcases hcase with ⟨f0,ht⟩ | ⟨f0,ht⟩
  ·have f1:=(dq_le_iff 0 F (-(v:Int))).2 f0
   rw [dq_zero] at f1
   exact Rat.mul_le_mul_of_nonneg_left ht f1
  ·have f1:=(dq_le_iff F 0 (-(v:Int))).2 f0
   rw [dq_zero] at f1
   have:=Rat.mul_le_mul_of_nonneg_left ht (show 0≤-dq F (-(v:Int)) by grind)
   grind
 have up:∀ F e:Int,0 < e → b * 2 ^ v≤F * e → ((F≤0∧t≤dq e (-(v:Int))) ∨ (0≤F∧dq e (-(v:Int))≤t)) → s / t≤dq F (-(v:Int)):=by
  intro F e he hF hcase
  refine le_of_mul t0 ?_
  rw [st]
  refine Rat.le_trans h2 ?_
  have e1:dq b (-(v:Int))≤dq F (-(v:Int)) * dq e (-(v:Int)):=by
   have hF2:=Rat.intCast_le_intCast.2 hF
   rw [Rat.intCast_mul,Rat.intCast_mul] at hF2
   rw [dq_scale F,dq_scale e,dq_scale b]
   have hu2:=Rat.mul_nonneg (Rat.le_of_lt hu) (Rat.le_of_lt hu)
   have:=Rat.mul_le_mul_of_nonneg_right hF2 hu2
   generalize dq 1 (-(v:Int)) = u at *
   generalize (((2:Int) ^ v:Int):Rat) = w at *
   rw [show (F:Rat) * u * ((e:Rat) * u) = (F:Rat) * (e:Rat) * (u * u) by grind]
   refine Rat.le_trans ?_ this
   rw [show (b:Rat) * w * (u * u) = (b:Rat) * u * (w * u) by grind,tc,Rat.mul_one]
   exact Rat.le_refl
  refine Rat.le_trans e1 ?_
  rcases hcase with ⟨f0,ht⟩ | ⟨f0,ht⟩
  ·have f1:=(dq_le_iff F 0 (-(v:Int))).2 f0
   rw [dq_zero] at f1
   have:=Rat.mul_le_mul_of_nonneg_left ht (show 0≤-dq F (-(v:Int)) by grind)
   grind
  ·have f1:=(dq_le_iff 0 F (-(v:Int))).2 f0
   rw [dq_zero] at f1
   exact Rat.mul_le_mul_of_nonneg_left ht f1
 have hp:=pow2_pos v
 have m1:∀ p q r w:Int,mn4 p q r w≤p∧mn4 p q r w≤r∧q≤mx4 p q r w∧w≤mx4 p q r w:=fun p q r w => by unfold mn4 mx4;omega
 obtain ⟨n1,n2,n3,n4⟩:=m1 (a * 2 ^ v / c) (cdv (b * 2 ^ v) c) (a * 2 ^ v / d) (cdv (b * 2 ^ v) d)
 constructor
 ·rcases Int.lt_or_le a 0 with ha | ha
  ·refine Rat.le_trans ((dq_le_iff _ _ _).2 n1) (lo _ c hc (Int.ediv_mul_le _ (by omega)) (Or.inr ⟨?_,k1⟩))
   have:=Int.mul_neg_of_neg_of_pos ha hp
   have:=Int.ediv_mul_le (a * 2 ^ v) (show c ≠ 0 by omega)
   refine Int.not_lt.1 fun hlt => ?_
   have:=Int.mul_pos hlt hc
   omega
  ·refine Rat.le_trans ((dq_le_iff _ _ _).2 n2) (lo _ d (by omega) (Int.ediv_mul_le _ (by omega)) (Or.inl ⟨?_,k2⟩))
   exact Int.ediv_nonneg (Int.mul_nonneg ha (Int.le_of_lt hp)) (by omega)
 ·rcases Int.lt_or_le b 0 with hb | hb
  ·refine Rat.le_trans (up _ d (by omega) ((cdv_le (by omega)).1 (Int.le_refl _)) (Or.inl ⟨?_,k2⟩)) ((dq_le_iff _ _ _).2 n4)
   refine (cdv_le (by omega)).2 ?_
   have:=Int.mul_neg_of_neg_of_pos hb hp
   omega
  ·refine Rat.le_trans (up _ c hc ((cdv_le (by omega)).1 (Int.le_refl _)) (Or.inr ⟨?_,k1⟩)) ((dq_le_iff _ _ _).2 n3)
   have:=(cdv_le (x:=b * 2 ^ v) (k:=cdv (b * 2 ^ v) c) hc).1 (Int.le_refl _)
   have h9:=Int.mul_nonneg hb (Int.le_of_lt hp)
   refine Int.not_lt.1 fun hlt => ?_
   have:=Int.mul_neg_of_neg_of_pos hlt hc
   omega
def msL (v:Nat) (a b c d:Int):Int:=mn4 (a * c) (a * d) (b * c) (b * d) / 2 ^ v
def msH (v:Nat) (a b c d:Int):Int:=cdv (mx4 (a * c) (a * d) (b * c) (b * d)) (2 ^ v)
def WiI (M a b:Int):Prop:=(-M≤a∧a≤M)∧(-M≤b∧b≤M)
theorem mul_wide {a c M D:Int} (ha:-M≤a∧a≤M) (hc:-D≤c∧c≤D):-(M * D)≤a * c∧a * c≤M * D:=by
 have h1:(a * c).natAbs = a.natAbs * c.natAbs:=Int.natAbs_mul a c
 have h2:a.natAbs * c.natAbs≤M.natAbs * D.natAbs:=Nat.mul_le_mul (by omega) (by omega)
 have h3:(M * D).natAbs = M.natAbs * D.natAbs:=Int.natAbs_mul M D
 have h4:0≤M * D:=Int.mul_nonneg (by omega) (by omega)
 omega
theorem ms_wide {v:Nat} {a b c d M D K:Int} (h:WiI M a b) (k:WiI D c d) (hD:16 * D≤2 ^ v) (hM:0≤M) (hK:M≤16 * K):WiI K (msL v a b c d) (msH v a b c d):=by
 have p:=pow2_pos v
 obtain ⟨ha,hb⟩:=h
 obtain ⟨hc,hd⟩:=k
 have q1:=mul_wide ha hc
 have q2:=mul_wide ha hd
 have q3:=mul_wide hb hc
 have q4:=mul_wide hb hd
 have e:M * D≤K * 2 ^ v:=by
  have h1:M * (16 * D)≤M * 2 ^ v:=Int.mul_le_mul_of_nonneg_left hD hM
  have h2:M * 2 ^ v≤16 * K * 2 ^ v:=Int.mul_le_mul_of_nonneg_right hK (Int.le_of_lt p)
  have h3:M * (16 * D) = 16 * (M * D):=by rw [← Int.mul_assoc,Int.mul_comm M 16,Int.mul_assoc]
  have h4:16 * K * 2 ^ v = 16 * (K * 2 ^ v):=Int.mul_assoc _ _ _
  omega
 have hn:-(K * 2 ^ v)≤mn4 (a * c) (a * d) (b * c) (b * d)∧mn4 (a * c) (a * d) (b * c) (b * d)≤K * 2 ^ v:=by unfold mn4;omega
 have hx:-(K * 2 ^ v)≤mx4 (a * c) (a * d) (b * c) (b * d)∧mx4 (a * c) (a * d) (b * c) (b * d)≤K * 2 ^ v:=by unfold mx4;omega
 unfold msL msH
 generalize mn4 (a * c) (a * d) (b * c) (b * d) = x at *
 generalize mx4 (a * c) (a * d) (b * c) (b * d) = y at *
 generalize (2:Int) ^ v = P at *
 have eK:-K * P = -(K * P):=Int.neg_mul _ _
 have eK1:(K + 1) * P = K * P + P:=by rw [Int.add_mul,Int.one_mul]
 refine ⟨⟨(Int.le_ediv_iff_mul_le p).2 (by omega),?_⟩,?_,(cdv_le p).2 hx.2⟩
 ·have:=(Int.ediv_lt_iff_lt_mul p).2 (show x < (K + 1) * P by omega)
  omega
 ·refine Int.not_lt.1 fun hlt => ?_
  have h1:=(cdv_le (x:=y) (n:=P) p).1 (Int.le_refl _)
  have h2:cdv y P * P≤(-K - 1) * P:=Int.mul_le_mul_of_nonneg_right (by omega) (Int.le_of_lt p)
  have h3:(-K - 1) * P = -(K * P) - P:=by rw [Int.sub_mul,Int.neg_mul,Int.one_mul]
  omega
structure LnI (v n:Nat) (z:Rat) (a b p q M:Int):Prop where
 tm:SpC a b v (rp z (2 * n + 1))
 sm:SpC p q v (art n z)
 wi:WiI M a b
 m0:0≤M
theorem LnI.first {v:Nat} {z:Rat} {a b M:Int} (h:SpC a b v z) (w:WiI M a b) (hM:0≤M):LnI v 0 z a b (0 * 2 ^ v) (0 * 2 ^ v) M:=by
 refine ⟨?_,?_,w,hM⟩
 ·have e:rp z (2 * 0 + 1) = z:=by show 1 * z = z;exact Rat.one_mul z
  rw [e];exact h
 ·have:=SpC.of 0 v
  exact this
def hr (q:Rat):Nat → Nat → Rat
 | 0,_ => 0
 | n + 1,k => 1 / (2 * (k:Rat) + 1) + q * hr q n (k + 1)
theorem odd_inv (k:Nat):0≤1 / (2 * (k:Rat) + 1)∧1 / (2 * (k:Rat) + 1)≤1∧1 / (2 * (k:Rat) + 1) * (2 * (k:Rat) + 1) = 1:=by
 have h:=nat_nn k
 have hp:(0:Rat) < 2 * (k:Rat) + 1:=by grind
 have e:1 / (2 * (k:Rat) + 1) * (2 * (k:Rat) + 1) = 1:=Rat.div_mul_cancel (Rat.ne_of_gt hp)
 refine ⟨le_of_mul hp ?_,le_of_mul hp ?_,e⟩
 ·rw [e];grind
 ·rw [e];grind
theorem hr_nn {q:Rat} (h:0≤q):∀ n k,0≤hr q n k
  | 0,_ => Rat.le_refl
  | n + 1,k => by
    show 0≤1 / (2 * (k:Rat) + 1) + q * hr q n (k + 1)
    have h1:=(odd_inv k).1
    have h2:=Rat.mul_nonneg h (hr_nn h n (k + 1))
    grind
theorem hr_le {q:Rat} (h:0≤q) (h1:q≤1 / 16):∀ n k,hr q n k≤2
  | 0,_ => by show (0:Rat)≤2;decide
  | n + 1,k => by
    show 1 / (2 * (k:Rat) + 1) + q * hr q n (k + 1)≤2
    have h2:=(odd_inv k).2.1
    have h3:=rmul_le h1 (hr_le h h1 n (k + 1)) (hr_nn h n (k + 1)) (by grind)
    grind
theorem ln_arg2 {m:Rat} (h1:7 / 10≤m) (h2:m≤8 / 5):-(1 / 5)≤(m - 1) / (m + 1)∧(m - 1) / (m + 1)≤6 / 25∧(1 + (m - 1) / (m + 1)) / (1 - (m - 1) / (m + 1)) = m:=by
 have hp:0 < m + 1:=by grind
 have e:=Rat.div_mul_cancel (a:=m - 1) (Rat.ne_of_gt hp)
 generalize (m - 1) / (m + 1) = z at *
 have b1:-(1 / 5)≤z:=le_of_mul hp (by rw [e];grind)
 have b2:z≤6 / 25:=le_of_mul hp (by rw [e];grind)
 refine ⟨b1,b2,?_⟩
 have hq:(0:Rat) < 1 - z:=by grind
 have e2:=Rat.div_mul_cancel (a:=1 + z) (Rat.ne_of_gt hq)
 generalize (1 + z) / (1 - z) = w at *
 have e3:w * (1 - z) = m * (1 - z):=by grind
 exact Rat.le_antisymm (le_of_mul hq (by rw [e3];exact Rat.le_refl)) (le_of_mul hq (by rw [e3];exact Rat.le_refl))
theorem ln_argz {m u r z:Rat} (hm1:7 / 10≤m) (hm2:m≤8 / 5) (hu:0≤u) (r1:r * (m + 1)≤1) (r2:1≤(r + u) * (m + 1)) (z1:z≤(m - 1) * r) (z2:(m - 1) * r≤z + u) :
  (m - 1) / (m + 1)≤z + 2 * u∧z≤(m - 1) / (m + 1) + 2 * u:=by
 have hp:0 < m + 1:=by grind
 have e:=Rat.div_mul_cancel (a:=m - 1) (Rat.ne_of_gt hp)
 generalize (m - 1) / (m + 1) = y at *
 -- y - (m - 1) r = (m - 1) (1 / (m + 1) - r)
 have f:(y - (m - 1) * r) * (m + 1) = (m - 1) * (1 - r * (m + 1)):=by grind
 have c0:0≤1 - r * (m + 1):=by grind
 have c1:1 - r * (m + 1)≤u * (m + 1):=by grind
 have c2:0≤u * (m + 1):=Rat.mul_nonneg hu (Rat.le_of_lt hp)
 have g1:(m - 1) * (1 - r * (m + 1))≤u * (m + 1):=by
  have:=Rat.mul_le_mul_of_nonneg_right (show m - 1≤1 by grind) c0
  grind
 have g2:-(u * (m + 1))≤(m - 1) * (1 - r * (m + 1)):=by
  have:=Rat.mul_le_mul_of_nonneg_right (show -1≤m - 1 by grind) c0
  grind
 rw [← f] at g1 g2
 have h1:y - (m - 1) * r≤u:=le_of_mul hp g1
 have h2:-u≤y - (m - 1) * r:=le_of_mul hp (by rw [Rat.neg_mul];exact g2)
 generalize (m - 1) * r = x at *
 clear f g1 g2 c0 c1 c2 r1 r2 e
 constructor <;> grind
theorem ln_argz4 {m m' u r z:Rat} (hm1:3 / 4≤m) (hm2:m≤3 / 2) (hu:0≤u) (hu1:u≤1 / 1000) (d1:m≤m' + u) (d2:m'≤m + u) (r1:r * (m' + 1)≤1) (r2:1≤(r + u) * (m' + 1)) (z1:z≤(m' - 1) * r) (z2:(m' - 1) * r≤z + u):-(121 / 500)≤z∧z≤121 / 500:=by
 have e1:7 / 10≤m':=by grind
 have e2:m'≤8 / 5:=by grind
 obtain ⟨a1,a2,a3⟩:=ln_arg2 e1 e2
 obtain ⟨b1,b2⟩:=ln_argz e1 e2 hu r1 r2 z1 z2
 constructor <;> grind

theorem dq_lt_iff (C D F:Int):dq C F < dq D F ↔ C < D:=by
 rw [← Rat.not_le,dq_le_iff]
 omega
theorem dq1_mono {a b:Int} (h:a≤b):dq 1 a≤dq 1 b:=by
 obtain ⟨j,rfl⟩:∃ j:Nat,b = a + (j:Int):=⟨(b - a).toNat,by omega⟩
 rw [← dq_shl,dq_le_iff]
 have:=pow2_pos j
 omega
theorem dq_shl1 (j:Nat) (e:Int):dq ((2 ^ j:Nat):Int) e = dq 1 (e + (j:Int)):=by
 rw [← dq_shl,Int.one_mul,cast2]
theorem top_iff {m e K:Int} (hK:0≤K):topZ m e≤K ↔ -(dq 1 K) < dq m e∧dq m e < dq 1 K:=by
 unfold topZ
 by_cases h0:m = 0
 ·subst h0
  rw [if_pos rfl,dq_zero]
  have hp:=dq_pos K
  refine ⟨fun _ => ⟨?_,hp⟩,fun _ => hK⟩
  have:=Rat.neg_lt_neg hp
  rwa [Rat.neg_zero] at this
 ·rw [if_neg h0]
  have hp:0 < m.natAbs:=by omega
  have hb:=blen_pos hp
  have lo:=two_pow_blen_le hp
  have hi:=lt_two_pow_blen m.natAbs
  have e1:dq ((2 ^ (blen m.natAbs - 1):Nat):Int) e≤dq (m.natAbs:Int) e:=(dq_le_iff _ _ _).2 (by omega)
  have e2:dq (m.natAbs:Int) e < dq ((2 ^ blen m.natAbs:Nat):Int) e:=(dq_lt_iff _ _ _).2 (by omega)
  rw [dq_shl1] at e1 e2
  have e3:0≤dq (m.natAbs:Int) e:=dq_nn e (by omega)
  have key:(blen m.natAbs:Int) + e≤K ↔ dq (m.natAbs:Int) e < dq 1 K:=by
   constructor
   ·intro h
    exact rle_lt e2 (dq1_mono (by omega))
   ·intro h
    by_cases hc:(blen m.natAbs:Int) + e≤K
    ·exact hc
    ·have:=dq1_mono (a:=K) (b:=e + ((blen m.natAbs - 1:Nat):Int)) (by omega)
     exact absurd (Rat.le_trans this e1) (Rat.not_le.2 h)
  rw [key]
  have hn:-(dq 1 K) < 0:=by
   have:=Rat.neg_lt_neg (dq_pos K)
   rwa [Rat.neg_zero] at this
  rcases Int.lt_or_le m 0 with hm | hm
  ·rw [show m = -(m.natAbs:Int) from by omega,dq_neg,show (-(m.natAbs:Int)).natAbs = m.natAbs from by omega]
   constructor
   ·intro h
    refine ⟨Rat.neg_lt_neg h,rlt_le ?_ (dq_pos K)⟩
    have:=Rat.neg_le_neg e3
    rwa [Rat.neg_zero] at this
   ·rintro ⟨h,_⟩
    have:=Rat.neg_lt_neg h
    rwa [Rat.neg_neg,Rat.neg_neg] at this
  ·rw [show ((m.natAbs:Int)) = m from by omega] at e3 ⊢
   exact ⟨fun h => ⟨rle_lt hn e3,h⟩,fun h => h.2⟩
theorem mkE_in (C:Int) (k:Int) (hk:0≤k):-k≤mkE C (-k)∧mkE C (-k)≤32 * (zl C:Int):=by
 unfold mkE
 by_cases h0:C = 0
 ·rw [if_pos h0];omega
 ·rw [if_neg h0]
  split
  ·unfold oddE
   have ht:=tz_le8 C.natAbs (by omega)
   have e1:zl C = len C.natAbs:=rfl
   omega
  ·omega
theorem nx {T x:Int} {j:Nat} (h:AbP T j) (hj:j≤20000) (hx:-20000≤x∧x≤20000) :
  mkR T x = 0∧zl (mkM T x)≤j / 32 + 1∧(mkE T x = 0 ∨ (x≤mkE T x∧mkE T x≤x + (j:Int) + 32))∧Dv (mkM T x) (mkE T x)∧dq (mkM T x) (mkE T x) = dq T x:=by
 have hz:=h.zl
 have hr:mkR T x = 0:=mk_fits9 (by omega) (by omega) (by omega)
 have z1:=zl_mk T x
 have z2:=mkE_at hr (k:=j / 32 + 1) hz
 exact ⟨hr,by omega,by omega,mk_ok hr,dq_mk hr⟩
theorem nx_zero {x:Int} (hx:-20000≤x∧x≤20000):mkM 0 x = 0∧mkE 0 x = 0:=by
 have hr:=(nx (x:=x) (AbP.zero 0) (by omega) hx).1
 constructor
 ·unfold mkM;rw [if_pos hr];exact oddM_zero
 ·unfold mkE;rw [if_pos rfl]
theorem permN {p:Nat} (h:p≤8192):permB (p:Int) = true:=by
 unfold permB
 rw [decide_eq_true (show (-2048:Int)≤(p:Int) by omega),decide_eq_true (show (p:Int)≤8192 by omega)]
 rfl
theorem nx_add {s t x:Int} {j:Nat} (h1:AbP s j) (h2:AbP t j) (hj:j≤6000) (hx:-6000≤x∧x≤100) :
  mkR (addS (mkM s x) (mkE s x) (mkM t x) (mkE t x)) (min (mkE s x) (mkE t x)) = 0 ∧
  mkM (addS (mkM s x) (mkE s x) (mkM t x) (mkE t x)) (min (mkE s x) (mkE t x)) = mkM (s + t) x ∧
  mkE (addS (mkM s x) (mkE s x) (mkM t x) (mkE t x)) (min (mkE s x) (mkE t x)) = mkE (s + t) x:=by
 obtain ⟨a1,a2,a3,a4,a5⟩:=nx (x:=x) h1 (by omega) (by omega)
 obtain ⟨b1,b2,b3,b4,b5⟩:=nx (x:=x) h2 (by omega) (by omega)
 have hz:=zl_addS (mkM s x) (mkE s x) (mkM t x) (mkE t x) 7500 (by omega) (by omega)
 obtain ⟨c1,_⟩:=nx (x:=x) (h1.add h2) (by omega) (by omega)
 have hr:mkR (addS (mkM s x) (mkE s x) (mkM t x) (mkE t x)) (min (mkE s x) (mkE t x)) = 0:=mk_fits9 (by omega) (by omega) (by omega)
 exact ⟨hr,mk_uniq hr c1 (by rw [dq_add,a5,b5,dq_addI])⟩
theorem one_p (p:Nat):dq (2 ^ p) (-(p:Int)) = 1:=by rw [dq_scale];exact two_cast p
theorem abp_of {y:Int} {p:Nat} (h0:0≤y) (h:y≤2 ^ p):AbP y p:=by
 unfold AbP
 have:((2 ^ p:Nat):Int) = 2 ^ p:=by push_cast;rfl
 omega
structure SeP (Q:Int) (p zs K:Nat):Prop where
 q0:0≤Q
 q1:16 * Q < 2 ^ p
 z4:4≤zs
 zp:(Q = 0∧zs = p + 1) ∨ zs≤p
 qz:Q < 2 ^ (p - zs)
 kz:K * zs≤p
 kz2:p < (K + 1) * zs
theorem SeP.q16 {Q:Int} {p zs K:Nat} (h:SeP Q p zs K):0≤dq Q (-(p:Int))∧dq Q (-(p:Int))≤1 / 16:=by
 have h0:=(dq_le_iff 0 Q (-(p:Int))).2 h.q0
 rw [dq_zero] at h0
 refine ⟨h0,?_⟩
 have h1:=(dq_le_iff (16 * Q) (2 ^ p) (-(p:Int))).2 (by have:=h.q1;omega)
 rw [one_p,dq_scale (16 * Q),Rat.intCast_mul] at h1
 rw [dq_scale]
 have e:((16:Int):Rat) = 16:=rfl
 rw [e] at h1
 generalize (Q:Rat) = a at *
 generalize dq 1 (-(p:Int)) = u at *
 grind
structure SeJ (Q:Int) (p zs K j:Nat) (x T:Int):Prop where
 jk:j≤K + 1
 xe:x + (((K + 1 - j) * zs:Nat):Int) = (p:Int)
 t0:0≤T
 tx:T = 0 ∨ 0≤x
 up:dq T (-x)≤hr (dq Q (-(p:Int))) j (K + 1 - j)
 lo:hr (dq Q (-(p:Int))) j (K + 1 - j) - 2 * (j:Rat) * dq 1 (-x)≤dq T (-x)
theorem SeJ.first {Q:Int} {p zs K:Nat}:SeJ Q p zs K 0 ((p:Int) - (((K + 1) * zs:Nat):Int)) 0:=by
 refine ⟨by omega,by simp,by omega,Or.inl rfl,?_,?_⟩
 ·rw [dq_zero];exact Rat.le_refl
 ·rw [dq_zero]
  show (0:Rat) - 2 * ((0:Nat):Rat) * _≤0
  rw [show ((0:Nat):Rat) = 0 from rfl]
  grind
theorem SeJ.rng {Q:Int} {p zs K j:Nat} {x T:Int} (h:SeJ Q p zs K j x T) (s:SeP Q p zs K):x≤(p:Int)∧-((p:Int) + 1)≤x:=by
 have h1:=h.xe
 have h2:=s.kz
 have h3:(K + 1 - j) * zs≤(K + 1) * zs:=Nat.mul_le_mul_right _ (by omega)
 rw [Nat.add_mul,Nat.one_mul] at h3
 have h4:=s.zp
 omega
theorem SeJ.size {Q:Int} {p zs K j:Nat} {x T:Int} (h:SeJ Q p zs K j x T) (s:SeP Q p zs K):AbP T (p + 1):=by
 rcases h.tx with e | hx
 ·rw [e];exact AbP.zero _
 ·have h1:=h.rng s
  obtain ⟨X,rfl⟩:∃ X:Nat,x = (X:Int):=⟨x.toNat,by omega⟩
  have h2:=Rat.le_trans h.up (hr_le s.q16.1 s.q16.2 _ _)
  have h3:dq (2 ^ (X + 1)) (-(X:Int)) = 2:=by
   rw [Int.pow_succ,dq_scale,Rat.intCast_mul]
   have:=two_cast X
   have e:((2:Int):Rat) = 2:=rfl
   rw [e]
   generalize (((2:Int) ^ X:Int):Rat) = P at *
   generalize dq 1 (-(X:Int)) = u at *
   grind
  rw [← h3] at h2
  exact (abp_of h.t0 ((dq_le_iff _ _ _).1 h2)).up (by omega)
structure SerOk (Q:Int) (p n:Nat) (T:Int):Prop where
 t0:0≤T
 up:dq T (-(p:Int))≤hr (dq Q (-(p:Int))) n 0
 lo:hr (dq Q (-(p:Int))) n 0 - 2 * (n:Rat) * dq 1 (-(p:Int))≤dq T (-(p:Int))
 sz:AbP T (p + 1)
 n4:4 * n≤p + 4
 pw:∀ s:Rat,0≤s → s≤dq (Q + 1) (-(p:Int)) → rp s n≤dq 1 (-(p:Int))
theorem ms_wide2 {v:Nat} {a b c d M D K:Int} (h:WiI M a b) (k:WiI D c d) (e:M * D≤K * 2 ^ v):WiI K (msL v a b c d) (msH v a b c d):=by
 have p:=pow2_pos v
 obtain ⟨ha,hb⟩:=h
 obtain ⟨hc,hd⟩:=k
 have q1:=mul_wide ha hc
 have q2:=mul_wide ha hd
 have q3:=mul_wide hb hc
 have q4:=mul_wide hb hd
 have hn:-(K * 2 ^ v)≤mn4 (a * c) (a * d) (b * c) (b * d)∧mn4 (a * c) (a * d) (b * c) (b * d)≤K * 2 ^ v:=by unfold mn4;omega
 have hx:-(K * 2 ^ v)≤mx4 (a * c) (a * d) (b * c) (b * d)∧mx4 (a * c) (a * d) (b * c) (b * d)≤K * 2 ^ v:=by unfold mx4;omega
 unfold msL msH
 generalize mn4 (a * c) (a * d) (b * c) (b * d) = x at *
 generalize mx4 (a * c) (a * d) (b * c) (b * d) = y at *
 generalize (2:Int) ^ v = P at *
 have eK:-K * P = -(K * P):=Int.neg_mul _ _
 have eK1:(K + 1) * P = K * P + P:=by rw [Int.add_mul,Int.one_mul]
 refine ⟨⟨(Int.le_ediv_iff_mul_le p).2 (by omega),?_⟩,?_,(cdv_le p).2 hx.2⟩
 ·have:=(Int.ediv_lt_iff_lt_mul p).2 (show x < (K + 1) * P by omega)
  omega
 ·refine Int.not_lt.1 fun hlt => ?_
  have h1:=(cdv_le (x:=y) (n:=P) p).1 (Int.le_refl _)
  have h2:cdv y P * P≤(-K - 1) * P:=Int.mul_le_mul_of_nonneg_right (by omega) (Int.le_of_lt p)
  have h3:(-K - 1) * P = -(K * P) - P:=by rw [Int.sub_mul,Int.neg_mul,Int.one_mul]
  omega
structure RfJ (v n f:Nat) (z:Rat) (a b p q:Int):Prop where
 nf:n + f = v
 ln:∃ M,LnI v n z a b p q M∧M≤2 ^ f
 p1:-((n:Int) * 2 ^ v)≤p∧p≤(n:Int) * 2 ^ v
 q1:-((n:Int) * 2 ^ v)≤q∧q≤(n:Int) * 2 ^ v
theorem RfJ.first {v:Nat} {z:Rat} {a b:Int} (hv:9≤v) (h:SpC a b v z) (w:WiI ((2 * 2 ^ v + 9) / 9) a b):RfJ v 0 v z a b 0 0:=by
 have hp:=pow2_pos v
 have l:=LnI.first (M:=(2 * 2 ^ v + 9) / 9) h w (by omega)
 rw [Int.zero_mul] at l
 have h9:(512:Int)≤2 ^ v:=by
  have:(2:Nat) ^ 9≤2 ^ v:=Nat.pow_le_pow_right (by omega) hv
  exact_mod_cast this
 exact ⟨by omega,⟨_,l,by omega⟩,by omega,by omega⟩
theorem znn_any (x:Nat) (v:Value) (w:World) (h:IsN w v x) (hl:len x≤1000000):Calls Tryz.prog 221 #[.bool false,v] w (RetZ w (x:Int)):=by
 obtain ⟨A,n,c,rfl,hs⟩:=h
 have hn:len x = n:=by rw [← length_dig];exact hs.len
 have:=znat_any false _ A n c w hs (by omega)
 rwa [val_dig] at this
theorem rznn_any (x:Nat) (v:Value) (w:World) (h:IsN w v x) (hl:len x≤1000000):Calls Tryz.prog 66 #[.bool false,v] w (RetZ w (x:Int)):=by
 obtain ⟨A,n,c,rfl,hs⟩:=h
 have hn:len x = n:=by rw [← length_dig];exact hs.len
 have:=rznat_any false _ A n c w hs (by omega)
 rwa [val_dig] at this
theorem isZ_n {w:World} {s:Value} {z:Int} (h:IsN w s z.natAbs):IsZ w (.agg #[.bool (ng z),s]) z:=⟨s,rfl,h⟩
theorem Lq.name {w0 w:World} {ns:List (Value × Nat)} {zs:List (Value × Int)} {qs:List (Value × Int × Nat)} {bs:List (Nat × TypeId × Array Value)} (h:Lq w0 w ns zs qs bs):∃ x,w = x∧Lq w0 x ns zs qs bs:=⟨w,rfl,h⟩
theorem len_half {r a K:Nat} (h:r * r≤a) (ha:len a≤2 * K):len r≤K:=by
 refine len_le ?_
 have h1:=len_le_iff.1 ha
 rw [Nat.mul_comm,Nat.pow_mul,Nat.pow_two] at h1
 rcases Nat.lt_or_ge r (W32 ^ K) with h2 | h2
 ·exact h2
 ·have:=Nat.mul_le_mul h2 h2
  omega
theorem sq_size {m e k:Int} (lm:zl m≤400) (he:-10000≤e∧e≤10000) (hm:0≤m) (hk:workB k = true):0≤cutQ (dq m e) (2 * k)∧zl (cutQ (dq m e) (2 * k))≤970∧zl (sqR (dq m e) k)≤485∧zl (sqU (dq m e) k)≤486∧mkR (cutQ (dq m e) (2 * k)) (-(2 * k)) = 0∧mkR (sqR (dq m e) k) (-k) = 0∧mkR (sqU (dq m e) k) (-k) = 0:=by
 obtain ⟨_,h0,h1⟩:=work_perm hk
 have c0:=cut_nn (dq_nn e hm) (2 * k)
 have c1:=zl_cutD m e (2 * k)
 have c2:zl (cutQ (dq m e) (2 * k))≤970:=by omega
 have r0:=sqR_nn (dq m e) k
 have r1:zl (sqR (dq m e) k)≤485:=by
  have h:=sqR_le (dq_nn e hm) k
  have h2:(sqR (dq m e) k).natAbs * (sqR (dq m e) k).natAbs≤(cutQ (dq m e) (2 * k)).natAbs:=by
   rw [← Int.natAbs_mul]
   have:=Int.mul_nonneg r0 r0
   omega
  exact len_half h2 (by exact Nat.le_trans c2 (by omega))
 have r2:zl (sqU (dq m e) k)≤486:=by
  have h:=su_le (dq m e) k
  have h2:=su_nn (dq m e) k
  have h3:=zl_add (sqR (dq m e) k) 1
  have h4:zl 1≤1:=len_le1 (by decide)
  have h5:zl (sqU (dq m e) k)≤zl (sqR (dq m e) k + 1):=len_mono (by omega)
  omega
 exact ⟨c0,c2,r1,r2,mk_fits2 (by omega) (by omega) (by omega),mk_fits2 (by omega) (by omega) (by omega),mk_fits2 (by omega) (by omega) (by omega)⟩
theorem mk_shl {C j:Int} (hj:0≤j) (h:mkR C (-j) = 0):∃ t:Nat,mkE C (-j) + j = (t:Int)∧mkM C (-j) * 2 ^ t = C∧t≤j.toNat + 32 * zl C:=by
 unfold mkE mkM
 rw [if_pos h,if_pos h]
 by_cases h0:C = 0
 ·rw [if_pos h0]
  subst h0
  refine ⟨j.toNat,by omega,by rw [oddM_zero,Int.zero_mul],by omega⟩
 ·rw [if_neg h0]
  have ht:=tz_le8 C.natAbs (by omega)
  have e1:zl C = len C.natAbs:=rfl
  exact ⟨tz C.natAbs,by unfold oddE;omega,odd_form C,by omega⟩
def RetSf (w:World) (m e k:Int):Ending → World → Prop:=if workB k then (if m < 0 then RetDE w 0 0 4 else RetDE w (mkM (sqR (dq m e) k) (-k)) (mkE (sqR (dq m e) k) (-k)) 0) else RetDE w 0 0 1
theorem cmp_neg0 (m:Int):cmpI m 0 < 0 ↔ m < 0:=by
 unfold cmpI
 (repeat' split) <;> omega
theorem RetDE.z {w w':World} (h:Below w.heap.size w w') (er:Int):RetDE w 0 0 er (.returned (.tuple #[.agg #[.bool false,.slice none 0 0,.int .i64 0],.int .i64 er])) w':=⟨_,rfl,isD_zero _,h⟩
theorem s13of_any (n:Int) (j:Nat) (w:World) (h1:-1000≤n) (h2:n≤1000) (hj:j≤100000) :
  Calls Tryz.prog 68 #[.int .i64 n,.int .i64 (j:Int)] w (RetSp w (n * 2 ^ j) (n * 2 ^ j)):=by
 have L0:=Lq.mk0 w
 have h3:=len_le1 (x:=n.natAbs) (by omega)
 have g1:=fun W => rzof_any n W (by omega) (by omega)
 have g2:=fun v W h => rzshl_any n v W h (show zl n≤274877906944 from Nat.le_trans h3 (by omega)) j (by omega)
 obtain ⟨x,hx⟩:=nm9 (n * 2 ^ j)
 rw [hx] at g2 ⊢
 have H1:=Hd9 g1
 have H2:=Hd9 g2
 clear g1 g2 hx h3
 go_enter Tryz.func68,Tryz.ntmps68
 go_wp2_with fail
 have L:=(L0.varS (w.heap.size) (by simp) false none 0 0 false none 0 0)
 obtain ⟨c00,c01,c02,c03⟩:=L.b0.a4
 obtain ⟨f00,f01,f02,f03⟩:=L.b0.f4
 (try go_wp2_with fail)
 refine (H1.out _).mono ?_
 rintro e w1 ⟨v1,rfl,iz,be⟩
 clear c00 f00 c01 f01 c02 f02 c03 f03
 replace L:=(L.step be).z iz
 obtain ⟨A8,c8,rfl,_⟩:=iz.form
 clear be iz
 obtain ⟨c00,c01,c02,c03⟩:=L.b0.a4
 obtain ⟨f00,f01,f02,f03⟩:=L.b0.f4
 (try go_wp2_with fail)
 refine (H2.out _ _ (L.getZ (by simp))).mono ?_
 rintro e w2 ⟨v2,rfl,iz,be⟩
 clear c00 f00 c01 f01 c02 f02 c03 f03
 replace L:=L.step be
 obtain ⟨A9,c9,rfl,in9⟩:=iz.form
 replace L:=L.n in9
 clear be iz in9
 obtain ⟨c00,c01,c02,c03⟩:=L.b0.a4
 obtain ⟨f00,f01,f02,f03⟩:=L.b0.f4
 have hl9:=L.b0.lt
 have LN:=L.varZ w2.heap.size rfl (ng x) A9 (zl x) c9
 obtain ⟨n0,n1⟩:=LN.b0.a2
 go_wp2_with fail
 clear c00 f00 c01 f01 c02 f02 c03 f03
 have LP0:=L.putS (by omega) (by simp) (ng x) A9 (zl x) c9 (ng x) A9 (zl x) c9
 have LP:=LP0.varZ _ rfl (ng x) A9 (zl x) c9
 obtain ⟨k0,k1,k2,k3⟩:=LP.tl.b0.a4
 unfold put4 at k0 k1 k2 k3
 exact bodyPost_ret (v:=.agg #[.bool (ng x),.slice A9 (zl x) c9,.bool (ng x),.slice A9 (zl x) c9]) (by simp [results,Tryz.results68,go_sem,k0,k1,k2,k3]) rfl ⟨_,rfl,isS_n (LP.getN (by simp)) (LP.getN (by simp)),LP.below⟩
theorem s13times_any (a b n:Int) (vx:Value) (w:World) (hx:IsS w vx a b) (la:zl a≤10000) (lb:zl b≤10000) (h1:-4000≤n) (h2:n≤4000) :
  Calls Tryz.prog 26 #[vx,.int .i64 n] w (RetSp w (a * n) (b * n)):=by
 obtain ⟨A,c,B,d,rfl,hn1,hn2⟩:=hx.form
 have L0:=((Lq.mk0 w).n hn2).n hn1
 have h3:=len_le1 (x:=n.natAbs) (by omega)
 have g0:=fun W => rzof_any n W (by omega) (by omega)
 have g1:=fun v u W h k => rzmul_any a n v u W h k (by omega) (show zl n≤274877906944 from Nat.le_trans h3 (by omega))
 have g2:=fun v u W h k => rzmul_any b n v u W h k (by omega) (show zl n≤274877906944 from Nat.le_trans h3 (by omega))
 obtain ⟨x,hx⟩:=nm9 (a * n)
 obtain ⟨y,hy⟩:=nm9 (b * n)
 rw [hx] at g1 ⊢
 rw [hy] at g2 ⊢
 have H0:=Hd9 g0
 have H1:=Hd9 g1
 have H2:=Hd9 g2
 clear g0 g1 g2 hx hy h3 hn1 hn2 la lb
 go_enter Tryz.func26,Tryz.ntmps26
 go_wp2_with fail
 have L:=((L0.varS (w.heap.size) (by simp) (ng a) A (zl a) c (ng b) B (zl b) d).varS (w.heap.size + 1) (by simp) false none 0 0 false none 0 0)
 obtain ⟨c00,c01,c02,c03⟩:=L.b0.a4
 obtain ⟨f00,f01,f02,f03⟩:=L.b0.f4
 obtain ⟨c10,c11,c12,c13⟩:=L.tl.b0.a4
 (try go_wp2_with fail)
 refine (H0.out _).mono ?_
 rintro e w1 ⟨v1,rfl,iz,be⟩
 clear c00 f00 c01 f01 c02 f02 c03 f03 c10 c11 c12 c13
 replace L:=L.step be
 obtain ⟨A7,c7,rfl,in9⟩:=iz.form
 replace L:=L.n in9
 clear be iz in9
 have hl9:=L.b0.lt
 replace L:=L.varZ w1.heap.size rfl (ng n) A7 (zl n) c7
 obtain ⟨c00,c01⟩:=L.b0.a2
 obtain ⟨f00,f01⟩:=L.b0.f2
 obtain ⟨c10,c11,c12,c13⟩:=L.tl.b0.a4
 obtain ⟨f10,f11,f12,f13⟩:=L.tl.b0.f4
 obtain ⟨c20,c21,c22,c23⟩:=L.tl.tl.b0.a4
 (try go_wp2_with fail)
 clear c00 f00 c01 f01 c10 f10 c11 f11 c12 f12 c13 f13 c20 c21 c22 c23
 obtain ⟨gx,hgx⟩:=nm9 (w1.heap.size)
 replace L:=L.drew
 rw [hgx] at L hl9 ⊢
 clear hgx
 have n1:w.heap.size + 1 ≠ gx:=by omega
 replace L:=L.swap
 obtain ⟨c00,c01,c02,c03⟩:=L.b0.a4
 obtain ⟨f00,f01,f02,f03⟩:=L.b0.f4
 obtain ⟨c10,c11⟩:=L.tl.b0.a2
 obtain ⟨f10,f11⟩:=L.tl.b0.f2
 obtain ⟨c20,c21,c22,c23⟩:=L.tl.tl.b0.a4
 go_region_held3 (fun w' => w'.cell? ⟨w.heap.size,0,none⟩ = some (.bool (ng a))∧w'.cell? ⟨w.heap.size,1,none⟩ = some (.slice A (zl a) c)∧w'.cell? ⟨w.heap.size,2,none⟩ = some (.bool (ng b))∧w'.cell? ⟨w.heap.size,3,none⟩ = some (.slice B (zl b) d)∧w'.cell? ⟨gx,0,none⟩ = some (.bool (ng n))∧w'.cell? ⟨gx,1,none⟩ = some (.slice A7 (zl n) c7)) (first | (with_reducible exact ⟨L.tl.tl.b0.c40,L.tl.tl.b0.c41,L.tl.tl.b0.c42,L.tl.tl.b0.c43,L.tl.b0.c20,L.tl.b0.c21⟩) | (have LP:=L.putS (by omega) (by first | (simp;done) | (simp;omega)) (ng x) A8 (zl x) c8 (ng y) A9 (zl y) c9;unfold put4 at LP;with_reducible exact ⟨LP.tl.tl.b0.c40,LP.tl.tl.b0.c41,LP.tl.tl.b0.c42,LP.tl.tl.b0.c43,LP.tl.b0.c20,LP.tl.b0.c21⟩) | exact ⟨L.tl.tl.b0.c40,L.tl.tl.b0.c41,L.tl.tl.b0.c42,L.tl.tl.b0.c43,L.tl.b0.c20,L.tl.b0.c21⟩) (first | (go_at_call 78;(with_reducible refine (H1.out _ _ _ ?_ ?_ ).mono ?_);(· (refine isZ_s (L.getN ?_);(repeat (first | (with_reducible exact mS) | apply mT))));(· (refine isZ_s (L.getN ?_);(repeat (first | (with_reducible exact mS) | apply mT))));rintro e wh ⟨vh,rfl,iz,be⟩;obtain ⟨A8,c8,rfl,in9⟩:=iz.form;replace L:=(L.step be).n in9;clear be iz in9;(try (obtain ⟨x00,x01,x02,x03⟩:=L.b0.a4;obtain ⟨y00,y01,y02,y03⟩:=L.b0.f4))) | (go_at_call 78;(with_reducible refine (H2.out _ _ _ ?_ ?_ ).mono ?_);(· (refine isZ_s (L.getN ?_);(repeat (first | (with_reducible exact mS) | apply mT))));(· (refine isZ_s (L.getN ?_);(repeat (first | (with_reducible exact mS) | apply mT))));rintro e wh ⟨vh,rfl,iz,be⟩;obtain ⟨A9,c9,rfl,in9⟩:=iz.form;replace L:=(L.step be).n in9;clear be iz in9;(try (obtain ⟨x00,x01,x02,x03⟩:=L.b0.a4;obtain ⟨y00,y01,y02,y03⟩:=L.b0.f4))))
 clear c00 f00 c01 f01 c02 f02 c03 f03 c10 f10 c11 f11 c20 c21 c22 c23
 go_wp2_with fail
 have LP:=L.putS (by omega) (by first | (simp;done) | (simp;omega)) (ng x) A8 (zl x) c8 (ng y) A9 (zl y) c9
 obtain ⟨k0,k1,k2,k3⟩:=LP.b0.a4
 unfold put4 at k0 k1 k2 k3
 exact bodyPost_ret (v:=.agg #[.bool (ng x),.slice A8 (zl x) c8,.bool (ng y),.slice A9 (zl y) c9]) (by simp [results,Tryz.results26,go_sem,k0,k1,k2,k3]) rfl ⟨_,rfl,isS_n (LP.getN (by simp)) (LP.getN (by simp)),LP.below⟩
theorem s13wide_any (a b n:Int) (vx:Value) (w:World) (hx:IsS w vx a b) (la:zl a≤10000) (lb:zl b≤10000) (h1:-1000≤n) (h2:n≤1000) :
  Calls Tryz.prog 129 #[vx,.int .i64 n] w (RetSp w (a - n) (b + n)):=by
 obtain ⟨A,c,B,d,rfl,hn1,hn2⟩:=hx.form
 have L0:=((Lq.mk0 w).n hn2).n hn1
 have h3:=len_le1 (x:=n.natAbs) (by omega)
 have g0:=fun W => rzof_any n W (by omega) (by omega)
 have g1:=fun v u W h k => rzsub_any a n v u W h k (by omega) (show zl n≤274877906944 from Nat.le_trans h3 (by omega))
 have g2:=fun v u W h k => rzadd_any b n v u W h k (by omega) (show zl n≤274877906944 from Nat.le_trans h3 (by omega))
 obtain ⟨x,hx⟩:=nm9 (a - n)
 obtain ⟨y,hy⟩:=nm9 (b + n)
 rw [hx] at g1 ⊢
 rw [hy] at g2 ⊢
 have H0:=Hd9 g0
 have H1:=Hd9 g1
 have H2:=Hd9 g2
 clear g0 g1 g2 hx hy h3 hn1 hn2 la lb
 go_enter Tryz.func129,Tryz.ntmps129
 go_wp2_with fail
 have L:=((L0.varS (w.heap.size) (by simp) (ng a) A (zl a) c (ng b) B (zl b) d).varS (w.heap.size + 1) (by simp) false none 0 0 false none 0 0)
 replace L:=L.drew
 obtain ⟨c00,c01,c02,c03⟩:=L.b0.a4
 obtain ⟨f00,f01,f02,f03⟩:=L.b0.f4
 obtain ⟨c10,c11,c12,c13⟩:=L.tl.b0.a4
 go_region_held3 (fun w' => w'.cell? ⟨w.heap.size,0,none⟩ = some (.bool (ng a))∧w'.cell? ⟨w.heap.size,1,none⟩ = some (.slice A (zl a) c)∧w'.cell? ⟨w.heap.size,2,none⟩ = some (.bool (ng b))∧w'.cell? ⟨w.heap.size,3,none⟩ = some (.slice B (zl b) d)) (first | (with_reducible exact ⟨L.tl.b0.c40,L.tl.b0.c41,L.tl.b0.c42,L.tl.b0.c43⟩) | (have LP:=L.putS (by omega) (by first | (simp;done) | (simp;omega)) (ng x) A8 (zl x) c8 (ng y) A9 (zl y) c9;unfold put4 at LP;with_reducible exact ⟨LP.tl.b0.c40,LP.tl.b0.c41,LP.tl.b0.c42,LP.tl.b0.c43⟩) | exact ⟨L.tl.b0.c40,L.tl.b0.c41,L.tl.b0.c42,L.tl.b0.c43⟩) (first | (go_at_call 60;(with_reducible refine (H0.out _ ).mono ?_);rintro e wh ⟨vh,rfl,iz,be⟩;obtain ⟨A7,c7,rfl,in9⟩:=iz.form;replace L:=(L.step be).n in9;clear be iz in9;(try (obtain ⟨x00,x01,x02,x03⟩:=L.b0.a4;obtain ⟨y00,y01,y02,y03⟩:=L.b0.f4))) | (go_at_call 178;(with_reducible refine (H1.out _ _ _ ?_ ?_ ).mono ?_);(· (refine isZ_s (L.getN ?_);(repeat (first | (with_reducible exact mS) | apply mT))));(· (refine isZ_s (L.getN ?_);(repeat (first | (with_reducible exact mS) | apply mT))));rintro e wh ⟨vh,rfl,iz,be⟩;obtain ⟨A8,c8,rfl,in9⟩:=iz.form;replace L:=(L.step be).n in9;clear be iz in9;(try (obtain ⟨x00,x01,x02,x03⟩:=L.b0.a4;obtain ⟨y00,y01,y02,y03⟩:=L.b0.f4))) | (go_at_call 84;(with_reducible refine (H2.out _ _ _ ?_ ?_ ).mono ?_);(· (refine isZ_s (L.getN ?_);(repeat (first | (with_reducible exact mS) | apply mT))));(· (refine isZ_s (L.getN ?_);(repeat (first | (with_reducible exact mS) | apply mT))));rintro e wh ⟨vh,rfl,iz,be⟩;obtain ⟨A9,c9,rfl,in9⟩:=iz.form;replace L:=(L.step be).n in9;clear be iz in9;(try (obtain ⟨x00,x01,x02,x03⟩:=L.b0.a4;obtain ⟨y00,y01,y02,y03⟩:=L.b0.f4))))
 clear c00 f00 c01 f01 c02 f02 c03 f03 c10 c11 c12 c13
 go_wp2_with fail
 have LP:=L.putS (by omega) (by first | (simp;done) | (simp;omega)) (ng x) A8 (zl x) c8 (ng y) A9 (zl y) c9
 obtain ⟨k0,k1,k2,k3⟩:=LP.b0.a4
 unfold put4 at k0 k1 k2 k3
 exact bodyPost_ret (v:=.agg #[.bool (ng x),.slice A8 (zl x) c8,.bool (ng y),.slice A9 (zl y) c9]) (by simp [results,Tryz.results129,go_sem,k0,k1,k2,k3]) rfl ⟨_,rfl,isS_n (LP.getN (by simp)) (LP.getN (by simp)),LP.below⟩
theorem s13tiny_any (a b:Int) (vx:Value) (w:World) (hx:IsS w vx a b) (la:zl a≤10000) (lb:zl b≤10000) :
  Calls Tryz.prog 128 #[vx] w (RetB w (tnB a b)):=by
 obtain ⟨A,c,B,d,rfl,hn1,hn2⟩:=hx.form
 have L0:=((Lq.mk0 w).n hn2).n hn1
 have e1:decide (a.natAbs≤1) = decide (cmpI (a.natAbs:Int) ((1:Nat):Int)≤0):=by
  rw [decide_eq_decide,cmpI_le]
  omega
 have e2:decide (b.natAbs≤1) = decide (cmpI (b.natAbs:Int) ((1:Nat):Int)≤0):=by
  rw [decide_eq_decide,cmpI_le]
  omega
 have g0:=fun W => rof_any 1 W (by omega)
 have g1:=fun v u W h k => rcmpB_any a.natAbs 1 v u W h k
 have g2:=fun v u W h k => rcmpB_any b.natAbs 1 v u W h k
 unfold tnB
 rw [e1,e2]
 obtain ⟨x,hx⟩:=nm9 (cmpI (a.natAbs:Int) ((1:Nat):Int))
 obtain ⟨y,hy⟩:=nm9 (cmpI (b.natAbs:Int) ((1:Nat):Int))
 rw [hx] at g1 ⊢
 rw [hy] at g2 ⊢
 have H0:=Hd9 g0
 have H1:=Hd9 g1
 have H2:=Hd9 g2
 clear g0 g1 g2 hx hy e1 e2 hn1 hn2 la lb
 cases t1:decide (x≤0)
 ·have n1:¬ x≤0:=of_decide_eq_false t1
  rw [Bool.false_and]
  go_enter Tryz.func128,Tryz.ntmps128
  go_wp2_with fail
  have L:=(L0.varS (w.heap.size) (by simp) (ng a) A (zl a) c (ng b) B (zl b) d)
  obtain ⟨c00,c01,c02,c03⟩:=L.b0.a4
  (try go_wp2_with fail)
  refine (H0.out _).mono ?_
  rintro e w1 ⟨vv,rfl,o⟩
  clear c00 c01 c02 c03
  replace L:=(L.step o.below).n o.isN
  clear o
  obtain ⟨c00,c01,c02,c03⟩:=L.b0.a4
  (try go_wp2_with fail)
  refine (H1.out _ _ _ (L.getN (by simp)) (L.getN (by simp))).mono ?_
  rintro e w2 ⟨rfl,be⟩
  clear c00 c01 c02 c03
  replace L:=L.step be
  clear be
  obtain ⟨c00,c01,c02,c03⟩:=L.b0.a4
  (try go_wp2_with fail)
  go_ret
  exact ⟨rfl,L.below⟩
 ·have n1:x≤0:=of_decide_eq_true t1
  rw [Bool.true_and]
  obtain ⟨z,hz⟩:=nm9 (decide (y≤0))
  rw [hz]
  go_enter Tryz.func128,Tryz.ntmps128
  go_wp2_with fail
  have L:=(L0.varS (w.heap.size) (by simp) (ng a) A (zl a) c (ng b) B (zl b) d)
  obtain ⟨c00,c01,c02,c03⟩:=L.b0.a4
  (try go_wp2_with fail)
  refine (H0.out _).mono ?_
  rintro e w1 ⟨vv,rfl,o⟩
  clear c00 c01 c02 c03
  replace L:=(L.step o.below).n o.isN
  clear o
  obtain ⟨c00,c01,c02,c03⟩:=L.b0.a4
  (try go_wp2_with fail)
  refine (H1.out _ _ _ (L.getN (by simp)) (L.getN (by simp))).mono ?_
  rintro e w2 ⟨rfl,be⟩
  clear c00 c01 c02 c03
  replace L:=L.step be
  clear be
  obtain ⟨c00,c01,c02,c03⟩:=L.b0.a4
  (try go_wp2_with fail)
  refine (H2.out _ _ _ (L.getN (by simp)) (L.getN (by simp))).mono ?_
  rintro e w3 ⟨rfl,be⟩
  clear c00 c01 c02 c03
  replace L:=L.step be
  clear be
  (try go_wp2_with fail)
  go_ret
  exact ⟨rfl,L.below⟩
def rtS (x:Int) (v:Nat):Int:=(rt 2 (x * 2 ^ v).natAbs:Int)
theorem zl_rtS {x:Int} {v k:Nat} (h:zl x≤k):zl (rtS x v)≤k + v / 32 + 1:=by
 have h1:=zl_shl32 x v
 have h2:len (rt 2 (x * 2 ^ v).natAbs)≤zl (x * 2 ^ v):=len_mono (Nat.le_trans (Nat.le_self_pow (show 2 ≠ 0 by omega) _) (rt_le _ (show 0 < 2 by omega)))
 have h3:zl (rtS x v) = len (rt 2 (x * 2 ^ v).natAbs):=rfl
 omega

theorem s13sqrt_any (a b:Int) (v:Nat) (vx:Value) (w:World) (hx:IsS w vx a b) (la:zl a≤1000) (lb:zl b≤1000) (hv:v≤10000) :
  Calls Tryz.prog 195 #[vx,.int .i64 (v:Int)] w (RetSp w (rtS a v) (rtS b v + 1)):=by
 obtain ⟨A,c,B,d,rfl,hn1,hn2⟩:=hx.form
 have L0:=((Lq.mk0 w).n hn2).n hn1
 have zX:=zl_shl32 a v
 have zY:=zl_shl32 b v
 have z1:zl 1≤1:=len_le1 (by omega)
 have rX:=zl_rtS (v:=v) la
 have rY:=zl_rtS (v:=v) lb
 have g1:=fun x W h => rzshl_any a x W h (by omega) v (by omega)
 have g2:=fun x W h => rzshl_any b x W h (by omega) v (by omega)
 have g3:=fun x W h => rsqrt_any (a * 2 ^ v).natAbs x W h (show len (a * 2 ^ v).natAbs≤10000 from Nat.le_trans zX (by omega))
 have g4:=fun x W h => rsqrt_any (b * 2 ^ v).natAbs x W h (show len (b * 2 ^ v).natAbs≤10000 from Nat.le_trans zY (by omega))
 have g5:=fun x W h => rznn_any (rt 2 (a * 2 ^ v).natAbs) x W h (show len (rt 2 (a * 2 ^ v).natAbs)≤1000000 from Nat.le_trans rX (by omega))
 have g6:=fun x W h => rznn_any (rt 2 (b * 2 ^ v).natAbs) x W h (show len (rt 2 (b * 2 ^ v).natAbs)≤1000000 from Nat.le_trans rY (by omega))
 have g7:=fun W => rzof_any 1 W (by omega) (by omega)
 obtain ⟨o,ho⟩:∃ o:Int,1 = o:=⟨_,rfl⟩
 have zo:zl o≤1:=len_le1 (x:=o.natAbs) (by omega)
 have g8:=fun x y W h k => rzadd_any (rtS b v) 1 x y W h k (by omega) (by omega)
 unfold rtS at g8 rX rY ⊢
 generalize a * 2 ^ v = X at *
 generalize b * 2 ^ v = Y at *
 obtain ⟨r1,hr1⟩:=nm9 (rt 2 X.natAbs)
 obtain ⟨r2,hr2⟩:=nm9 (rt 2 Y.natAbs)
 obtain ⟨e1,he1⟩:=nm9 (X.natAbs - r1 * r1)
 obtain ⟨e2,he2⟩:=nm9 (Y.natAbs - r2 * r2)
 rw [hr1] at g3 g5 ⊢
 rw [hr2] at g4 g6 g8 ⊢
 rw [he1] at g3
 rw [he2] at g4
 rw [ho] at g8 ⊢
 have g7:∀ W,Calls Tryz.prog 60 #[.int .i64 1] W (RetZ W o):=fun W => by rw [← ho];exact g7 W
 obtain ⟨R,hR⟩:∃ z:Int,(r1:Int) = z:=⟨_,rfl⟩
 obtain ⟨T,hT⟩:∃ z:Int,(r2:Int) = z:=⟨_,rfl⟩
 rw [hR] at g5 ⊢
 rw [hT] at g6 g8 ⊢
 obtain ⟨S,hS⟩:=nm9 (T + o)
 rw [hS] at g8 ⊢
 clear z1 zX zY rX rY hR hT hS hr1 hr2 he1 he2 ho zo hx hn1 hn2 la lb hv
 have G1:=Hd9 g1
 have G2:=Hd9 g2
 have G3:=Hd9 g3
 have G4:=Hd9 g4
 have G5:=Hd9 g5
 have G6:=Hd9 g6
 have G7:=Hd9 g7
 have G8:=Hd9 g8
 clear g1 g2 g3 g4 g5 g6 g7 g8
 go_enter Tryz.func195,Tryz.ntmps195
 go_wp2_with fail
 have L:=((L0.varS (w.heap.size) (by simp) (ng a) A (zl a) c (ng b) B (zl b) d).varS (w.heap.size + 1) (by simp) false none 0 0 false none 0 0)
 obtain ⟨c10,c11,c12,c13⟩:=L.tl.b0.a4
 (try go_wp2_with fail)
 refine (G1.out _ _ (isZ_s (L.getN (v:=.slice A (zl a) c) (x:=(a).natAbs) (by simp)))).mono ?_
 rintro e w1 ⟨v9,rfl,iz,be⟩
 clear c10 c11 c12 c13
 obtain ⟨A7,c7,rfl,in9⟩:=iz.form
 replace L:=(L.step be).n in9
 clear be iz in9
 have hfd:∀ W,(Instr.field 24 (.agg #[.bool (ng X),.slice A7 (zl X) c7]) 1).run Tryz.prog W = .ok (.slice A7 (zl X) c7) W:=fun W => by kernel_rfl
 (try go_wp2_with fail)
 clear hfd
 refine (G3.out _ _ (L.getN (v:=.slice A7 (zl X) c7) (x:=(X).natAbs) (by simp))).mono ?_
 rintro e w2 ⟨vq,vr,rfl,oq,or_,be⟩
 replace L:=(L.step be).n (isN_of_own oq rfl)
 clear be oq or_
 obtain ⟨c10,c11,c12,c13⟩:=L.tl.b0.a4
 (try go_wp2_with fail)
 refine (G2.out _ _ (isZ_s (L.getN (v:=.slice B (zl b) d) (x:=(b).natAbs) (by simp)))).mono ?_
 rintro e w3 ⟨v9,rfl,iz,be⟩
 clear c10 c11 c12 c13
 obtain ⟨A8,c8,rfl,in9⟩:=iz.form
 replace L:=(L.step be).n in9
 clear be iz in9
 have hfd:∀ W,(Instr.field 24 (.agg #[.bool (ng Y),.slice A8 (zl Y) c8]) 1).run Tryz.prog W = .ok (.slice A8 (zl Y) c8) W:=fun W => by kernel_rfl
 (try go_wp2_with fail)
 clear hfd
 refine (G4.out _ _ (L.getN (v:=.slice A8 (zl Y) c8) (x:=(Y).natAbs) (by simp))).mono ?_
 rintro e w4 ⟨vs,vt,rfl,oq,or_,be⟩
 replace L:=(L.step be).n (isN_of_own oq rfl)
 clear be oq or_
 obtain ⟨c10,c11,c12,c13⟩:=L.tl.b0.a4
 (try go_wp2_with fail)
 refine (G5.out _ _ (L.getN (v:=vq) (x:=r1) (by simp))).mono ?_
 rintro e w5 ⟨vz,rfl,iz,be⟩
 clear c10 c11 c12 c13
 obtain ⟨A5,c5,rfl,in9⟩:=iz.form
 replace L:=(L.step be).n in9
 clear be iz in9
 (try go_wp2_with fail)
 refine (G6.out _ _ (L.getN (v:=vs) (x:=r2) (by simp))).mono ?_
 rintro e w6 ⟨vz,rfl,iz,be⟩
 obtain ⟨A6,c6,rfl,in9⟩:=iz.form
 replace L:=(L.step be).n in9
 clear be iz in9
 (try go_wp2_with fail)
 refine (G7.out _).mono ?_
 rintro e w7 ⟨vz,rfl,iz,be⟩
 obtain ⟨A9,c9,rfl,in9⟩:=iz.form
 replace L:=(L.step be).n in9
 clear be iz in9
 (try go_wp2_with fail)
 refine (G8.out _ _ _ (isZ_s (L.getN (v:=.slice A6 (zl T) c6) (x:=(T).natAbs) (by simp))) (isZ_s (L.getN (v:=.slice A9 (zl o) c9) (x:=(o).natAbs) (by simp)))).mono ?_
 rintro e w8 ⟨vz,rfl,iz,be⟩
 obtain ⟨A4,c4,rfl,in9⟩:=iz.form
 replace L:=(L.step be).n in9
 clear be iz in9
 obtain ⟨c00,c01,c02,c03⟩:=L.b0.a4
 obtain ⟨f00,f01,f02,f03⟩:=L.b0.f4
 obtain ⟨c10,c11,c12,c13⟩:=L.tl.b0.a4
 go_wp2_with fail
 clear c00 f00 c01 f01 c02 f02 c03 f03 c10 c11 c12 c13
 have LP:=L.putS (by omega) (by first | (simp;done) | (simp;omega)) (ng R) A5 (zl R) c5 (ng S) A4 (zl S) c4
 obtain ⟨k0,k1,k2,k3⟩:=LP.b0.a4
 unfold put4 at k0 k1 k2 k3
 exact bodyPost_ret (v:=.agg #[.bool (ng R),.slice A5 (zl R) c5,.bool (ng S),.slice A4 (zl S) c4]) (by simp [results,Tryz.results195,go_sem,k0,k1,k2,k3]) rfl ⟨_,rfl,isS_n (LP.getN (by simp)) (LP.getN (by simp)),LP.below⟩

theorem abs_floor (y:Int) {n:Int} (hn:0 < n):(y / n).natAbs≤y.natAbs:=by
 rcases Int.lt_or_le y 0 with h | h
 ·have h1:y / n < 0:=Int.ediv_neg_of_neg_of_pos h hn
  have h2:y≤y / n:=by
   rw [Int.le_ediv_iff_mul_le hn]
   have:=Int.mul_le_mul_of_nonneg_left (show (1:Int)≤n by omega) (show 0≤-y by omega)
   rw [Int.mul_one,Int.neg_mul] at this
   omega
  omega
 ·have h1:=Int.ediv_nonneg h (show 0≤n by omega)
  have h2:=Int.ediv_le_self n h
  omega
theorem zl_floor (y:Int) {n:Int} (hn:0 < n):zl (y / n)≤zl y:=len_mono (abs_floor y hn)
theorem zl_cdv (y:Int) {n:Int} (hn:0 < n):zl (cdv y n)≤zl y:=by
 unfold cdv
 rw [zl_neg]
 exact Nat.le_trans (zl_floor (-y) hn) (Nat.le_of_eq (zl_neg y))

theorem s13overD_any (x n:Int) (vx vn:Value) (w:World) (hx:IsZ w vx x) (hn:IsZ w vn n) (lx:zl x≤1000000) (ln:zl n≤1000000) (h0:0 < n) :
  Calls Tryz.prog 140 #[vx,vn,.bool false] w (RetZ w (x / n)):=by
 obtain ⟨A,c,rfl,in1⟩:=hx.form
 obtain ⟨B,d,rfl,in2⟩:=hn.form
 have L0:=((Lq.mk0 w).z hn).z hx
 have g2:=fun v u W h k => rzdivmod_pos x n v u W h k (by omega) (by omega) h0
 obtain ⟨C,hC⟩:=nm9 (x / n)
 obtain ⟨R,hR⟩:=nm9 (x % n)
 rw [hC,hR] at g2
 rw [hC]
 have H2:=Hd9 g2
 clear g2 hC hR hx hn in1 in2 h0
 go_enter Tryz.func140,Tryz.ntmps140
 go_wp2_with fail
 have L:=(((L0.varZ (w.heap.size) (by simp) (ng x) A (zl x) c).varZ (w.heap.size + 1) (by simp) (ng n) B (zl n) d).varZ (w.heap.size + 2) (by simp) false none 0 0)
 obtain ⟨c00,c01⟩:=L.b0.a2
 obtain ⟨f00,f01⟩:=L.b0.f2
 obtain ⟨c10,c11⟩:=L.tl.b0.a2
 obtain ⟨c20,c21⟩:=L.tl.tl.b0.a2
 (try go_wp2_with fail)
 refine (H2.out _ _ _ (L.getZ (by simp)) (L.getZ (by simp))).mono ?_
 rintro e w1 ⟨v1,v2,rfl,i1,i2,be⟩
 clear c00 f00 c01 f01 c10 c11 c20 c21
 replace L:=((L.step be).z i2).z i1
 obtain ⟨A7,c7,rfl,_⟩:=i1.form
 obtain ⟨A6,c6,rfl,_⟩:=i2.form
 clear be i1 i2
 have hlt:=L.b0.lt
 obtain ⟨c00,c01⟩:=L.b0.a2
 obtain ⟨f00,f01⟩:=L.b0.f2
 obtain ⟨c10,c11⟩:=L.tl.b0.a2
 obtain ⟨c20,c21⟩:=L.tl.tl.b0.a2
 replace L:=(L.varZ w1.heap.size rfl (ng C) A7 (zl C) c7).varZ (w1.heap.size + 1) (by simp) (ng R) A6 (zl R) c6
 obtain ⟨y0,y1⟩:=L.tl.b0.a2
 obtain ⟨y2,y3⟩:=L.tl.tl.b0.a2
 obtain ⟨y4,y5⟩:=L.tl.tl.b0.f2
 have d1:w.heap.size + 2 ≠ w1.heap.size:=by omega
 have d2:w.heap.size + 2 ≠ w1.heap.size + 1:=by omega
 have d3:w.heap.size + 1 + 1 ≠ w1.heap.size:=by omega
 have d4:w.heap.size + 1 + 1 ≠ w1.heap.size + 1:=by omega
 go_wp2_with fail
 clear c00 f00 c01 f01 c10 c11 c20 c21
 replace L:=L.pull2
 have LP:=L.putZ (by omega) (by first | (simp;done) | (simp;omega)) (ng C) A7 (zl C) c7
 obtain ⟨k0,k1⟩:=LP.b0.a2
 unfold put2 at k0 k1
 exact bodyPost_ret (v:=.agg #[.bool (ng C),.slice A7 (zl C) c7]) (by simp [results,Tryz.results140,go_sem,k0,k1]) rfl ⟨_,rfl,LP.hz,LP.below⟩
theorem s13overU_any (x n:Int) (vx vn:Value) (w:World) (hx:IsZ w vx x) (hn:IsZ w vn n) (lx:zl x≤1000000) (ln:zl n≤1000000) (h0:0 < n) :
  Calls Tryz.prog 140 #[vx,vn,.bool true] w (RetZ w (cdv x n)):=by
 obtain ⟨A,c,rfl,in1⟩:=hx.form
 obtain ⟨B,d,rfl,in2⟩:=hn.form
 have L0:=((Lq.mk0 w).z hn).z hx
 have z1:=zl_neg x
 have z2:=zl_floor (-x) h0
 unfold cdv
 have g1:=fun v W h => rzneg_any x v W h (by omega)
 have g2:=fun v u W h k => rzdivmod_pos (-x) n v u W h k (by omega) (by omega) h0
 have g3:=fun v W h => rzneg_any (-x / n) v W h (by omega)
 obtain ⟨y,hy⟩:=nm9 (-x)
 rw [hy] at g1 g2 g3 ⊢
 obtain ⟨C,hC⟩:=nm9 (y / n)
 obtain ⟨R,hR⟩:=nm9 (y % n)
 rw [hC,hR] at g2
 rw [hC] at g3 ⊢
 obtain ⟨E,hE⟩:=nm9 (-C)
 rw [hE] at g3 ⊢
 have H1:=Hd9 g1
 have H2:=Hd9 g2
 have H3:=Hd9 g3
 clear g1 g2 g3 hC hR hE hy hx hn in1 in2 h0 z1 z2
 go_enter Tryz.func140,Tryz.ntmps140
 go_wp2_with fail
 have L:=(((L0.varZ (w.heap.size) (by simp) (ng x) A (zl x) c).varZ (w.heap.size + 1) (by simp) (ng n) B (zl n) d).varZ (w.heap.size + 2) (by simp) false none 0 0)
 obtain ⟨c00,c01⟩:=L.b0.a2
 obtain ⟨f00,f01⟩:=L.b0.f2
 obtain ⟨c10,c11⟩:=L.tl.b0.a2
 obtain ⟨c20,c21⟩:=L.tl.tl.b0.a2
 (try go_wp2_with fail)
 clear c00 f00 c01 f01 c10 c11 c20 c21
 obtain ⟨V,hV⟩:=nm9 (((w.alloc (.cells #[.bool (ng x),.slice A (zl x) c] 24)).alloc (.cells #[.bool (ng n),.slice B (zl n) d] 24)).alloc (.cells #[.bool false,.slice none 0 0] 24))
 rw [hV] at L ⊢
 clear hV
 have Q0:=Hd9 (fun Z (hZ:Below V.heap.size V Z) => (L.tl.tl.b0.mono hZ).c20)
 have Q1:=Hd9 (fun Z (hZ:Below V.heap.size V Z) => (L.tl.tl.b0.mono hZ).c21)
 have Q2:=Hd9 (fun Z (hZ:Below V.heap.size V Z) => (L.tl.b0.mono hZ).c20)
 have Q3:=Hd9 (fun Z (hZ:Below V.heap.size V Z) => (L.tl.b0.mono hZ).c21)
 have hgx0:=L.b0.lt
 have D0:Dq V V [] [(.agg #[.bool (ng x),.slice A (zl x) c],x),(.agg #[.bool (ng n),.slice B (zl n) d],n)] [] []:=⟨((Lq.mk0 V).z (L.getZ (by simp))).z (L.getZ (by simp)),List.nodup_nil,fun p hp => by cases hp⟩
 have LL:=Hd9 L
 clear L
 have D:=D0.drew
 obtain ⟨m,hmw⟩:=nm9 (V.heap.size)
 have hz0:m≤V.heap.size:=by omega
 have hgx:w.heap.size < m:=by omega
 have hgy:w.heap.size + 1 < m:=by omega
 have hmd:V.drew.heap.size = m:=hmw
 go_cut [7,8,9] from 14 to 21 (fun s3 s4 s5 wx => s5 = .bool true∧Made2Z V C R s3 s4 wx)
 case first =>
  go_region_held3 (fun w' => w'.cell? ⟨w.heap.size,0,none⟩ = some (.bool (ng x))∧w'.cell? ⟨w.heap.size,1,none⟩ = some (.slice A (zl x) c)∧w'.cell? ⟨(w.heap.size + 1),0,none⟩ = some (.bool (ng n))∧w'.cell? ⟨(w.heap.size + 1),1,none⟩ = some (.slice B (zl n) d)) (((try dsimp only);refine ⟨?_,?_,?_,?_⟩ <;> (repeat (first | (with_reducible exact Q0.out _ D.lq.below) | (with_reducible exact Q0.out _ D0.lq.below) | (with_reducible exact Q1.out _ D.lq.below) | (with_reducible exact Q1.out _ D0.lq.below) | (with_reducible exact Q2.out _ D.lq.below) | (with_reducible exact Q2.out _ D0.lq.below) | (with_reducible exact Q3.out _ D.lq.below) | (with_reducible exact Q3.out _ D0.lq.below) | (with_reducible refine c_alloc _ ?_) | (with_reducible refine c_drew ?_) | (with_reducible refine c_set ?_ (by assumption) ?_) | omega)))) (first | (go_at_call 82;(with_reducible refine (H1.out _ _ ?_).mono ?_);(· (first | ((with_reducible refine D.getZ ?_) <;> (repeat (first | (with_reducible exact mS) | apply mT))) | ((with_reducible refine (D.boxZ false none 0 0).getZ ?_) <;> (repeat (first | (with_reducible exact mS) | apply mT))) | ((with_reducible refine (D.boxZ2 false none 0 0 false none 0 0).getZ ?_) <;> (repeat (first | (with_reducible exact mS) | apply mT))) | ((with_reducible refine (D0.boxZ false none 0 0).drew.getZ ?_) <;> (repeat (first | (with_reducible exact mS) | apply mT))) | ((with_reducible refine (D0.boxZ2 false none 0 0 false none 0 0).drew.getZ ?_) <;> (repeat (first | (with_reducible exact mS) | apply mT)))));rintro e9 wh ⟨vh,rfl,iz,be⟩;(first | (replace D:=D.step be) | (replace D:=(D.boxMZ hmd false none 0 0).step be) | (replace D:=(D.boxMZ2 hmd false none 0 0 false none 0 0).step be) | (replace D:=(D.boxZ false none 0 0).step be) | (replace D:=(D.boxZ2 false none 0 0 false none 0 0).step be));have hz:=be.size;(try simp at hz);replace D:=D.z iz;obtain ⟨A8,c8,rfl,_⟩:=iz.form;clear iz;(try (obtain ⟨q000,q001⟩:=D.lq.b0.a2;obtain ⟨q002,q003⟩:=D.lq.b0.f2));(try (have q010:=(D.alloc (.cells #[.bool false,.slice none 0 0] 24)).lq.b0.c20;have q011:=(D.alloc (.cells #[.bool false,.slice none 0 0] 24)).lq.b0.c21;have q012:=(D.alloc (.cells #[.bool false,.slice none 0 0] 24)).lq.b0.fr 0;have q013:=(D.alloc (.cells #[.bool false,.slice none 0 0] 24)).lq.b0.fr 1));(try (have q020:=((D.alloc (.cells #[.bool false,.slice none 0 0] 24)).alloc (.cells #[.bool false,.slice none 0 0] 24)).lq.b0.c20;have q021:=((D.alloc (.cells #[.bool false,.slice none 0 0] 24)).alloc (.cells #[.bool false,.slice none 0 0] 24)).lq.b0.c21;have q022:=((D.alloc (.cells #[.bool false,.slice none 0 0] 24)).alloc (.cells #[.bool false,.slice none 0 0] 24)).lq.b0.fr 0;have q023:=((D.alloc (.cells #[.bool false,.slice none 0 0] 24)).alloc (.cells #[.bool false,.slice none 0 0] 24)).lq.b0.fr 1));(try (obtain ⟨q100,q101⟩:=D.lq.tl.b0.a2;obtain ⟨q102,q103⟩:=D.lq.tl.b0.f2));(try (have q110:=(D.alloc (.cells #[.bool false,.slice none 0 0] 24)).lq.tl.b0.c20;have q111:=(D.alloc (.cells #[.bool false,.slice none 0 0] 24)).lq.tl.b0.c21;have q112:=(D.alloc (.cells #[.bool false,.slice none 0 0] 24)).lq.tl.b0.fr 0;have q113:=(D.alloc (.cells #[.bool false,.slice none 0 0] 24)).lq.tl.b0.fr 1));(try (have q120:=((D.alloc (.cells #[.bool false,.slice none 0 0] 24)).alloc (.cells #[.bool false,.slice none 0 0] 24)).lq.tl.b0.c20;have q121:=((D.alloc (.cells #[.bool false,.slice none 0 0] 24)).alloc (.cells #[.bool false,.slice none 0 0] 24)).lq.tl.b0.c21;have q122:=((D.alloc (.cells #[.bool false,.slice none 0 0] 24)).alloc (.cells #[.bool false,.slice none 0 0] 24)).lq.tl.b0.fr 0;have q123:=((D.alloc (.cells #[.bool false,.slice none 0 0] 24)).alloc (.cells #[.bool false,.slice none 0 0] 24)).lq.tl.b0.fr 1));(try obtain ⟨na,nb,nc,nd,nl⟩:=D.n0);(try obtain ⟨ne,nf,ng',nh,nm⟩:=D.n1);(try obtain ⟨ni,nj⟩:=D.n01)) | (go_at_call 179;(with_reducible refine (H2.out _ _ _ ?_ ?_).mono ?_);(· (first | ((with_reducible refine D.getZ ?_) <;> (repeat (first | (with_reducible exact mS) | apply mT))) | ((with_reducible refine (D.boxZ false none 0 0).getZ ?_) <;> (repeat (first | (with_reducible exact mS) | apply mT))) | ((with_reducible refine (D.boxZ2 false none 0 0 false none 0 0).getZ ?_) <;> (repeat (first | (with_reducible exact mS) | apply mT))) | ((with_reducible refine (D0.boxZ false none 0 0).drew.getZ ?_) <;> (repeat (first | (with_reducible exact mS) | apply mT))) | ((with_reducible refine (D0.boxZ2 false none 0 0 false none 0 0).drew.getZ ?_) <;> (repeat (first | (with_reducible exact mS) | apply mT)))));(· (first | ((with_reducible refine D.getZ ?_) <;> (repeat (first | (with_reducible exact mS) | apply mT))) | ((with_reducible refine (D.boxZ false none 0 0).getZ ?_) <;> (repeat (first | (with_reducible exact mS) | apply mT))) | ((with_reducible refine (D.boxZ2 false none 0 0 false none 0 0).getZ ?_) <;> (repeat (first | (with_reducible exact mS) | apply mT))) | ((with_reducible refine (D0.boxZ false none 0 0).drew.getZ ?_) <;> (repeat (first | (with_reducible exact mS) | apply mT))) | ((with_reducible refine (D0.boxZ2 false none 0 0 false none 0 0).drew.getZ ?_) <;> (repeat (first | (with_reducible exact mS) | apply mT)))));rintro e9 wh ⟨vh,vj,rfl,iz,iy,be⟩;(first | (replace D:=D.step be) | (replace D:=(D.boxMZ hmd false none 0 0).step be) | (replace D:=(D.boxMZ2 hmd false none 0 0 false none 0 0).step be) | (replace D:=(D.boxZ false none 0 0).step be) | (replace D:=(D.boxZ2 false none 0 0 false none 0 0).step be));have hzz:=be.size;(try simp at hzz);replace D:=(D.z iy).z iz;obtain ⟨A7,c7,rfl,_⟩:=iz.form;obtain ⟨A6,c6,rfl,_⟩:=iy.form;clear iz iy;(try (obtain ⟨q000,q001⟩:=D.lq.b0.a2;obtain ⟨q002,q003⟩:=D.lq.b0.f2));(try (have q010:=(D.alloc (.cells #[.bool false,.slice none 0 0] 24)).lq.b0.c20;have q011:=(D.alloc (.cells #[.bool false,.slice none 0 0] 24)).lq.b0.c21;have q012:=(D.alloc (.cells #[.bool false,.slice none 0 0] 24)).lq.b0.fr 0;have q013:=(D.alloc (.cells #[.bool false,.slice none 0 0] 24)).lq.b0.fr 1));(try (have q020:=((D.alloc (.cells #[.bool false,.slice none 0 0] 24)).alloc (.cells #[.bool false,.slice none 0 0] 24)).lq.b0.c20;have q021:=((D.alloc (.cells #[.bool false,.slice none 0 0] 24)).alloc (.cells #[.bool false,.slice none 0 0] 24)).lq.b0.c21;have q022:=((D.alloc (.cells #[.bool false,.slice none 0 0] 24)).alloc (.cells #[.bool false,.slice none 0 0] 24)).lq.b0.fr 0;have q023:=((D.alloc (.cells #[.bool false,.slice none 0 0] 24)).alloc (.cells #[.bool false,.slice none 0 0] 24)).lq.b0.fr 1));(try (obtain ⟨q100,q101⟩:=D.lq.tl.b0.a2;obtain ⟨q102,q103⟩:=D.lq.tl.b0.f2));(try (have q110:=(D.alloc (.cells #[.bool false,.slice none 0 0] 24)).lq.tl.b0.c20;have q111:=(D.alloc (.cells #[.bool false,.slice none 0 0] 24)).lq.tl.b0.c21;have q112:=(D.alloc (.cells #[.bool false,.slice none 0 0] 24)).lq.tl.b0.fr 0;have q113:=(D.alloc (.cells #[.bool false,.slice none 0 0] 24)).lq.tl.b0.fr 1));(try (have q120:=((D.alloc (.cells #[.bool false,.slice none 0 0] 24)).alloc (.cells #[.bool false,.slice none 0 0] 24)).lq.tl.b0.c20;have q121:=((D.alloc (.cells #[.bool false,.slice none 0 0] 24)).alloc (.cells #[.bool false,.slice none 0 0] 24)).lq.tl.b0.c21;have q122:=((D.alloc (.cells #[.bool false,.slice none 0 0] 24)).alloc (.cells #[.bool false,.slice none 0 0] 24)).lq.tl.b0.fr 0;have q123:=((D.alloc (.cells #[.bool false,.slice none 0 0] 24)).alloc (.cells #[.bool false,.slice none 0 0] 24)).lq.tl.b0.fr 1));(try obtain ⟨na,nb,nc,nd,nl⟩:=D.n0);(try obtain ⟨ne,nf,ng',nh,nm⟩:=D.n1);(try obtain ⟨ni,nj⟩:=D.n01)))
  all_goals
   go_wp2_with fail
   go_meet
   refine ⟨rfl,?_⟩
   first
   | ((with_reducible refine made2z_a D ?_ ?_) <;> (repeat (first | (with_reducible exact mS) | apply mT)))
   | ((with_reducible refine made2z_b D ?_ ?_) <;> (repeat (first | (with_reducible exact mS) | apply mT)))
   | ((with_reducible refine made2z_c D ?_ ?_) <;> (repeat (first | (with_reducible exact mS) | apply mT)))
   | ((with_reducible refine made2z_d D ?_ ?_) <;> (repeat (first | (with_reducible exact mS) | apply mT)))
   | ((with_reducible refine made2z_e D ?_ ?_) <;> (repeat (first | (with_reducible exact mS) | apply mT)))
   | ((with_reducible refine made2z_f D ?_ ?_) <;> (repeat (first | (with_reducible exact mS) | apply mT)))
 case rest =>
  obtain ⟨rfl,g1,g2,A1,c1,A2,c2,rfl,rfl,hg1,hg2,hg3,bw,hb1,hb2,hz1,hz2⟩:=hcut
  have hg4:=LL.out.b0.lt
  have L:=((((LL.out.step bw).z hz2).z hz1).b hb2).b hb1
  clear D D0 hmd hz0 hgx hgy Q0 Q1 Q2 Q3 LL hb1 hb2 hz1 hz2 bw
  have e1:w.heap.size + 2 ≠ g1:=by omega
  have e2:w.heap.size + 2 ≠ g2:=by omega
  have e3:w.heap.size + 1 + 1 ≠ g1:=by omega
  generalize wc = wd at *
  obtain ⟨c00,c01⟩:=L.b0.a2
  (try go_wp2_with fail)
  refine (H3.out _ _ (L.getZ (v:=.agg #[.bool (ng C),.slice A1 (zl C) c1]) (by simp))).mono ?_
  rintro e w6 ⟨v1,rfl,iz,be⟩
  clear c00 c01
  replace L:=(L.step be).z iz
  obtain ⟨A9,c9,rfl,_⟩:=iz.form
  clear be iz
  replace L:=L.pull2
  obtain ⟨c00,c01⟩:=L.b0.a2
  obtain ⟨f00,f01⟩:=L.b0.f2
  (try go_wp2_with fail)
  have LP:=L.putZ (by omega) (by first | (simp;done) | (simp;omega)) (ng E) A9 (zl E) c9
  obtain ⟨k0,k1⟩:=LP.b0.a2
  unfold put2 at k0 k1
  exact bodyPost_ret (v:=.agg #[.bool (ng E),.slice A9 (zl E) c9]) (by simp [results,Tryz.results140,go_sem,k0,k1]) rfl ⟨_,rfl,LP.hz,LP.below⟩
def RowZ (w:World) (v:Value) (l:List Int):Prop:=∃ g c,v = .slice (some ⟨g,0,none⟩) l.length c∧g < w.heap.size∧∀ (j:Nat) (p:Int),l[j]? = some p → ∃ A c,w.cell? ⟨g,2 * j,none⟩ = some (.bool (ng p))∧w.cell? ⟨g,2 * j + 1,none⟩ = some (.slice A (zl p) c)∧IsZ w (.agg #[.bool (ng p),.slice A (zl p) c]) p
theorem RowZ.mono {w w':World} {v:Value} {l:List Int} (h:RowZ w v l) (hb:Below w.heap.size w w'):RowZ w' v l:=by
 obtain ⟨g,c,r,hg,h⟩:=h
 refine ⟨g,c,r,Nat.lt_of_lt_of_le hg hb.size,fun j p hp => ?_⟩
 obtain ⟨A,c,h1,h2,h3⟩:=h j p hp
 exact ⟨A,c,(hb.cell (p:=⟨g,2 * j,none⟩) hg).trans h1,(hb.cell (p:=⟨g,2 * j + 1,none⟩) hg).trans h2,h3.mono hb⟩
def IsLstZ (x:Int) (l:List Int):Prop:=x ∈ l∧∀ p ∈ l,x≤p
def IsMstZ (x:Int) (l:List Int):Prop:=x ∈ l∧∀ p ∈ l,p≤x
theorem lst_eq {x:Int} {l:List Int} {p:Int} (h:IsLstZ x l) (hp:p ∈ l) (h2:∀ q ∈ l,p≤q):p = x:=Int.le_antisymm (h2 x h.1) (h.2 p hp)
theorem mst_eq {x:Int} {l:List Int} {p:Int} (h:IsMstZ x l) (hp:p ∈ l) (h2:∀ q ∈ l,q≤p):p = x:=Int.le_antisymm (h.2 p hp) (h2 x h.1)
def LoopZ (l:List Int) (t:Nat) (a1 a2:Int):Prop:=a1 ∈ l∧a2 ∈ l∧∀ (j:Nat) (p:Int),j < t → l[j]? = some p → a1≤p∧p≤a2
theorem LoopZ.step {l:List Int} {t:Nat} {a1 a2 a b1 b2:Int} (h:LoopZ l t a1 a2) (hp:l[t]? = some a) (m1:b1 ∈ l) (m2:b2 ∈ l) (x1:b1≤a1) (x2:b1≤a) (y1:a2≤b2) (y2:a≤b2):LoopZ l (t + 1) b1 b2:=by
 refine ⟨m1,m2,fun j p hj hjp => ?_⟩
 rcases Nat.lt_or_ge j t with h1 | h1
 ·have:=h.2.2 j p h1 hjp
  exact ⟨Int.le_trans x1 this.1,Int.le_trans this.2 y1⟩
 ·obtain rfl:j = t:=by omega
  rw [hp] at hjp
  obtain rfl:=Option.some.inj hjp
  exact ⟨x2,y2⟩
theorem LoopZ.all {l:List Int} {a1 a2:Int} {n:Nat} (hn:l.length = n) (h:LoopZ l n a1 a2):(∀ q ∈ l,a1≤q)∧∀ q ∈ l,q≤a2:=by
 constructor <;> intro q hq <;> obtain ⟨j,hj,e⟩:=List.getElem_of_mem hq
 ·exact (h.2.2 j q (by omega) (by rw [← e];exact List.getElem?_eq_getElem hj)).1
 ·exact (h.2.2 j q (by omega) (by rw [← e];exact List.getElem?_eq_getElem hj)).2
theorem Lq.twoZ {w0 w:World} {ns:List (Value × Nat)} {zs:List (Value × Int)} {qs:List (Value × Int × Nat)} {bs:List (Nat × TypeId × Array Value)} (h:Lq w0 w ns zs qs bs) {p q:Value × Int} {b c:Nat × TypeId × Array Value} (hp:p ∈ zs) (hq:q ∈ zs) (hb:b ∈ bs) (hc:c ∈ bs):Lq w0 w [] [p,q] [] [b,c]:=
 ⟨h.below,fun _ x => (by cases x),fun x hx => h.zs x (by simp only [List.mem_cons,List.not_mem_nil,or_false] at hx;rcases hx with rfl | rfl <;> assumption),fun _ x => (by cases x),fun x hx => h.bs x (by simp only [List.mem_cons,List.not_mem_nil,or_false] at hx;rcases hx with rfl | rfl <;> assumption)⟩
theorem cmpI_lt0 {x y:Int}:cmpI x y < 0 ↔ x < y:=by
 unfold cmpI
 (repeat' split) <;> omega
theorem cmpI_gt0 {x y:Int}:0 < cmpI x y ↔ y < x:=by
 unfold cmpI
 (repeat' split) <;> omega

theorem s13hull_any (l:List Int) (lo hi n:Int) (vl vn:Value) (w:World) (hl:RowZ w vl l) (hn:IsZ w vn n) (h0:0 < l.length) (hsz:l.length≤1000) (hb:∀ p ∈ l,zl p≤10000) (hlo:IsLstZ lo l) (hhi:IsMstZ hi l) (ln:zl n≤10000) (hn0:0 < n) :
  Calls Tryz.prog 79 #[vl,vn] w (RetSp w (lo / n) (cdv hi n)):=by
 obtain ⟨g,c,rfl,hg,hrow⟩:=hl
 obtain ⟨N,cn,rfl,_⟩:=hn.form
 have HB:=Hd9 hb
 have HLO:=Hd9 hlo
 have HHI:=Hd9 hhi
 have k1:=hb lo hlo.1
 have k2:=hb hi hhi.1
 have o1:=fun v u W h k => s13overD_any lo n v u W h k (by omega) (by omega) hn0
 have o2:=fun v u W h k => s13overU_any hi n v u W h k (by omega) (by omega) hn0
 obtain ⟨X,hX⟩:=nm9 (lo / n)
 obtain ⟨Y,hY⟩:=nm9 (cdv hi n)
 rw [hX] at o1 ⊢
 rw [hY] at o2 ⊢
 have O1:=Hd9 o1
 have O2:=Hd9 o2
 clear o1 o2 hX hY k1 k2
 clear hb hlo hhi hn0
 obtain ⟨a0,hp0⟩:∃ p,l[0]? = some p:=⟨l[0],List.getElem?_eq_getElem h0⟩
 obtain ⟨A0,c0,r0,r1,r3⟩:=hrow 0 _ hp0
 have HM0:=Hd9 (List.mem_of_getElem? hp0)
 rw [Nat.mul_zero] at r0 r1
 obtain ⟨k,hk⟩:=nm9 (l.length)
 rw [hk] at h0 hsz ⊢
 have hk0:(0:Int) < (k:Int):=by omega
 have HN:=Hd9 hk
 have HROW0:=Hd9 hrow
 clear hp0 hk hrow
 go_enter Tryz.func79,Tryz.ntmps79
 go_wp2_with fail
 have L:=(((((Lq.mk0 w).z hn).z r3).varZ (w.heap.size) (by simp) (ng n) N (zl n) cn).varS (w.heap.size + 1) (by simp) false none 0 0 false none 0 0)
 obtain ⟨c00,c01,c02,c03⟩:=L.b0.a4
 obtain ⟨f00,f01,f02,f03⟩:=L.b0.f4
 obtain ⟨c10,c11⟩:=L.tl.b0.a2
 (try go_wp2_with fail)
 clear c00 f00 c01 f01 c02 f02 c03 f03 c10 c11
 obtain ⟨V,hV⟩:=nm9 ((w.alloc (.cells #[.bool (ng n),.slice N (zl n) cn] 24)).alloc (.cells #[.bool false,.slice none 0 0,.bool false,.slice none 0 0] 53))
 rw [hV] at L ⊢
 clear hV
 have hwV:=L.b0.lt
 have hgV:g < V.heap.size:=by omega
 have HROW:=Hd9 (fun Z (hZ:Below V.heap.size V Z) (j:Nat) (p:Int) (hp:l[j]? = some p) => (show ∃ A c,Z.cell? ⟨g,2 * j,none⟩ = some (.bool (ng p))∧Z.cell? ⟨g,2 * j + 1,none⟩ = some (.slice A (zl p) c)∧IsZ Z (.agg #[.bool (ng p),.slice A (zl p) c]) p from by
  obtain ⟨A,c,x1,x2,x4⟩:=HROW0.out j p hp
  have hbz:=L.below.trans (hZ.mono L.below.size)
  exact ⟨A,c,(hbz.cell (p:=⟨g,2 * j,none⟩) hg).trans x1,(hbz.cell (p:=⟨g,2 * j + 1,none⟩) hg).trans x2,x4.mono hbz⟩))
 have q0:=(L.below.cell (p:=⟨g,0,none⟩) hg).trans r0
 have q1:=(L.below.cell (p:=⟨g,0 + 1,none⟩) hg).trans r1
 rw [Nat.zero_add] at q1
 have Q0:=Hd9 (fun Z (hZ:Below V.heap.size V Z) => (hZ.cell (p:=⟨g,0,none⟩) hgV).trans q0)
 have Q1:=Hd9 (fun Z (hZ:Below V.heap.size V Z) => (hZ.cell (p:=⟨g,1,none⟩) hgV).trans q1)
 clear q0 q1 r0 r1 r3 HROW0 hn
 have D0:Dq V V [] [(.agg #[.bool (ng a0),.slice A0 (zl a0) c0],a0)] [] []:=⟨(Lq.mk0 V).z (L.getZ (by simp)),List.nodup_nil,fun p hp => by cases hp⟩
 have D:=D0.drew
 have LL:=Hd9 L
 clear L
 obtain ⟨K,hK⟩:=nm9 (V.heap.size)
 have hz0:K≤V.heap.size:=by omega
 have hcg:g < K:=by omega
 have hmd:V.drew.heap.size = K:=hK
 go_cut [5,6] from 9 to 14 (fun s6 s7 wx => Made2Z V a0 a0 s6 s7 wx)
 case first =>
  go_region_held3 (fun w' => w'.cell? ⟨g,0,none⟩ = some (.bool (ng a0))∧w'.cell? ⟨g,1,none⟩ = some (.slice A0 (zl a0) c0)) (((try dsimp only);refine ⟨?_,?_⟩ <;> (repeat (first | (with_reducible exact Q0.out _ D.lq.below) | (with_reducible exact Q0.out _ D0.lq.below) | (with_reducible exact Q1.out _ D.lq.below) | (with_reducible exact Q1.out _ D0.lq.below) | (with_reducible refine c_alloc _ ?_) | (with_reducible refine c_drew ?_) | (with_reducible refine c_set ?_ (by assumption) ?_) | omega)))) (fail)
  all_goals
   go_wp2_with fail
   go_meet
   have E1:=(D0.boxZ2 (ng a0) A0 (zl a0) c0 (ng a0) A0 (zl a0) c0).drew
   rw [hK] at E1
   first
   | exact made2z_of E1.swap (by simp) (by simp)
   | exact made2z_of E1 (by simp) (by simp)
 case rest =>
  obtain ⟨g5,g6,A1,c1,A2,c2,rfl,rfl,hg5,hg6,hg56,bw,hb1,hb2,hq1,hq2⟩:=hcut
  have L:=(((((Lq.mk0 V).step bw).z hq2).z hq1).b hb2).b hb1
  clear D D0 hmd hz0 hK hb1 hb2 hq1 hq2 bw Q0 Q1 hcg
  generalize wc = wd at *
  have HF:=Hd9 (show LoopZ l 0 a0 a0 from ⟨HM0.out,HM0.out,fun j p hj => absurd hj (Nat.not_lt_zero j)⟩)
  (try go_wp2_with fail)
  go_loopw [17] (fun i wr => ∃ (t:Nat) (a1:Int) (A1:Option Addr) (c1:Nat) (a2:Int) (A2:Option Addr) (c2:Nat),i = .int .i64 (t:Int)∧t≤k∧Lq V wr [] [(.agg #[.bool (ng a1),.slice A1 (zl a1) c1],a1),(.agg #[.bool (ng a2),.slice A2 (zl a2) c2],a2)] [] [(g5,24,#[.bool (ng a1),.slice A1 (zl a1) c1]),(g6,24,#[.bool (ng a2),.slice A2 (zl a2) c2])]∧Hid (LoopZ l t a1 a2)) (fun i _ => k - (intOf i).toNat)
  case atStart => exact ⟨0,a0,A1,c1,a0,A2,c2,rfl,by omega,L,HF⟩
  case round =>
   clear L HF
   obtain ⟨t,a1,A1,c1,a2,A2,c2,rfl,ht,L,HF⟩:=hrel
   rcases Nat.eq_or_lt_of_le ht with rfl | ht3
   ·have ha:=HF.out.all HN.out
    have el:=lst_eq HLO.out HF.out.1 ha.1
    have eh:=mst_eq HHI.out HF.out.2.1 ha.2
    subst el eh
    have hv6:=L.tl.b0
    have hv5:=L.b0
    have L:=(((((LL.out.step L.below).z (L.getZ (v:=.agg #[.bool (ng a2),.slice A2 (zl a2) c2]) (x:=a2) (by simp))).z (L.getZ (v:=.agg #[.bool (ng a1),.slice A1 (zl a1) c1]) (x:=a1) (by simp))).b hv6).b hv5).pull2
    clear hv5 hv6 HF HROW LL
    have e1:w.heap.size + 1 ≠ g5:=by omega
    have e2:w.heap.size + 1 ≠ g6:=by omega
    (try go_wp2_with fail)
    replace L:=L.drew
    obtain ⟨c00,c01,c02,c03⟩:=L.b0.a4
    obtain ⟨f00,f01,f02,f03⟩:=L.b0.f4
    obtain ⟨c10,c11⟩:=L.tl.b0.a2
    obtain ⟨c20,c21⟩:=L.tl.tl.b0.a2
    obtain ⟨c30,c31⟩:=L.tl.tl.tl.b0.a2
    go_region_held3 (fun w' => w'.cell? ⟨g5,0,none⟩ = some (.bool (ng a1))∧w'.cell? ⟨g5,1,none⟩ = some (.slice A1 (zl a1) c1)∧w'.cell? ⟨g6,0,none⟩ = some (.bool (ng a2))∧w'.cell? ⟨g6,1,none⟩ = some (.slice A2 (zl a2) c2)∧w'.cell? ⟨w.heap.size,0,none⟩ = some (.bool (ng n))∧w'.cell? ⟨w.heap.size,1,none⟩ = some (.slice N (zl n) cn)) (first | (with_reducible exact ⟨L.tl.b0.c20,L.tl.b0.c21,L.tl.tl.b0.c20,L.tl.tl.b0.c21,L.tl.tl.tl.b0.c20,L.tl.tl.tl.b0.c21⟩) | (have LP:=L.putS (by omega) (by first | (simp;done) | (simp;omega)) (ng X) A8 (zl X) c8 (ng Y) A9 (zl Y) c9;unfold put4 at LP;with_reducible exact ⟨LP.tl.b0.c20,LP.tl.b0.c21,LP.tl.tl.b0.c20,LP.tl.tl.b0.c21,LP.tl.tl.tl.b0.c20,LP.tl.tl.tl.b0.c21⟩) | exact ⟨L.tl.b0.c20,L.tl.b0.c21,L.tl.tl.b0.c20,L.tl.tl.b0.c21,L.tl.tl.tl.b0.c20,L.tl.tl.tl.b0.c21⟩) (first | (go_at_call 140;(with_reducible refine (O1.out _ _ _ ?_ ?_ ).mono ?_);(· (refine L.getZ ?_;(repeat (first | (with_reducible exact mS) | apply mT))));(· (refine L.getZ ?_;(repeat (first | (with_reducible exact mS) | apply mT))));rintro e wh ⟨vh,rfl,iz,be⟩;obtain ⟨A8,c8,rfl,in9⟩:=iz.form;replace L:=(L.step be).n in9;clear be iz in9;(try (obtain ⟨x00,x01,x02,x03⟩:=L.b0.a4;obtain ⟨y00,y01,y02,y03⟩:=L.b0.f4))) | (go_at_call 140;(with_reducible refine (O2.out _ _ _ ?_ ?_ ).mono ?_);(· (refine L.getZ ?_;(repeat (first | (with_reducible exact mS) | apply mT))));(· (refine L.getZ ?_;(repeat (first | (with_reducible exact mS) | apply mT))));rintro e wh ⟨vh,rfl,iz,be⟩;obtain ⟨A9,c9,rfl,in9⟩:=iz.form;replace L:=(L.step be).n in9;clear be iz in9;(try (obtain ⟨x00,x01,x02,x03⟩:=L.b0.a4;obtain ⟨y00,y01,y02,y03⟩:=L.b0.f4))))
    clear c00 f00 c01 f01 c02 f02 c03 f03 c10 c11 c20 c21 c30 c31
    go_wp2_with fail
    have LP:=L.putS (by omega) (by first | (simp;done) | (simp;omega)) (ng X) A8 (zl X) c8 (ng Y) A9 (zl Y) c9
    obtain ⟨k0,k1,k2,k3⟩:=LP.b0.a4
    unfold put4 at k0 k1 k2 k3
    exact bodyPost_ret (v:=.agg #[.bool (ng X),.slice A8 (zl X) c8,.bool (ng Y),.slice A9 (zl Y) c9]) (by simp [results,Tryz.results79,go_sem,k0,k1,k2,k3]) rfl ⟨_,rfl,isS_n (LP.getN (by simp)) (LP.getN (by simp)),LP.below⟩
   ·obtain ⟨a,hp⟩:∃ p,l[t]? = some p:=⟨_,List.getElem?_eq_getElem (by rw [HN.out];exact ht3)⟩
    obtain ⟨A,cc,e0,e1,iq⟩:=HROW.out _ L.below t _ hp
    rw [Nat.mul_comm 2 t] at e0 e1
    have HP:=Hd9 hp
    have hd:=HB.out _ (List.mem_of_getElem? hp)
    have hd1:=HB.out _ HF.out.1
    have hd2:=HB.out _ HF.out.2.1
    have z1:=fun v u W h1 h2 => rzcmp_any a a1 v u W h1 h2 (by omega) (by omega)
    have z2:=fun v u W h1 h2 => rzcmp_any a a2 v u W h1 h2 (by omega) (by omega)
    have j1:=cmpI_lt0 (x:=a) (y:=a1)
    have j2:=cmpI_gt0 (x:=a) (y:=a2)
    obtain ⟨x1,hx1⟩:=nm9 (cmpI a a1)
    obtain ⟨x2,hx2⟩:=nm9 (cmpI a a2)
    rw [hx1] at z1 j1
    rw [hx2] at z2 j2
    have C1:=Hd9 z1
    have C2:=Hd9 z2
    have J1:=Hd9 j1
    have J2:=Hd9 j2
    have hlt:(t:Int) < (k:Int):=by omega
    have ht0:(0:Int)≤(t:Int):=by omega
    have hl5:=L.b0.lt
    have hl6:=L.tl.b0.lt
    clear hp z1 z2 j1 j2 hx1 hx2 hd hd1 hd2
    replace L:=(L.z iq).varZ wr.heap.size rfl (ng a) A (zl a) cc
    clear iq
    obtain ⟨cel00,cel01⟩:=L.b0.a2
    obtain ⟨cel10,cel11⟩:=L.tl.b0.a2
    go_wp2_with fail
    obtain ⟨gx,hgx⟩:=nm9 (wr.heap.size)
    rw [hgx] at L hl5 hl6 cel00 cel01 ⊢
    clear hgx e0 e1
    have n1:g5 ≠ gx:=by omega
    have n2:g6 ≠ gx:=by omega
    have n3:g6 ≠ g5:=Ne.symm hg56
    refine (C1.out _ _ _ (L.getZ (v:=.agg #[.bool (ng a),.slice A (zl a) cc]) (x:=a) (by simp)) (L.getZ (v:=.agg #[.bool (ng a1),.slice A1 (zl a1) c1]) (x:=a1) (by simp))).mono ?_
    rintro e w21 ⟨rfl,be⟩
    clear cel00 cel01 cel10 cel11
    replace L:=L.step be
    clear be
    by_cases y1:x1 < 0
    ·have t1:decide (x1 < 0) = true:=decide_eq_true y1
     obtain ⟨cel00,cel01⟩:=L.b0.a2
     obtain ⟨f00,f01⟩:=L.b0.f2
     obtain ⟨cel10,cel11⟩:=L.tl.b0.a2
     obtain ⟨f10,f11⟩:=L.tl.b0.f2
     have P:=(L.swap.putZ hg5 (by simp [n1,n2,n3,Ne.symm n1]) (ng a) A (zl a) cc).swap
     obtain ⟨p0,p1⟩:=P.b0.a2
     obtain ⟨p3,p4⟩:=P.tl.tl.b0.a2
     unfold put2 at p0 p1 p3 p4 P
     replace L:=P
     go_wp2_with fail
     refine (C2.out _ _ _ (L.getZ (v:=.agg #[.bool (ng a),.slice A (zl a) cc]) (x:=a) (by simp)) (L.getZ (v:=.agg #[.bool (ng a2),.slice A2 (zl a2) c2]) (x:=a2) (by simp))).mono ?_
     rintro e w22 ⟨rfl,be⟩
     replace L:=L.step be
     clear be
     by_cases y2:0 < x2
     ·have t2:decide (0 < x2) = true:=decide_eq_true y2
      obtain ⟨cel00,cel01⟩:=L.b0.a2
      obtain ⟨f00,f01⟩:=L.b0.f2
      obtain ⟨cel20,cel21⟩:=L.tl.tl.b0.a2
      obtain ⟨f20,f21⟩:=L.tl.tl.b0.f2
      have P:=(L.pull2.putZ hg6 (by simp [n1,n2,n3,Ne.symm n1,Ne.symm n2,Ne.symm n3]) (ng a) A (zl a) cc)
      unfold put2 at P
      replace L:=P
      go_wp2_with fail
      go_roundw
      case rel => exact ⟨t + 1,a,A,cc,a,A,cc,by go_num,by omega,L.twoZ (by simp) (by simp) (by simp) (by simp),Hd9 (HF.out.step HP.out (List.mem_of_getElem? HP.out) (List.mem_of_getElem? HP.out) (Int.le_of_lt (J1.out.1 y1)) (Int.le_refl _) (Int.le_of_lt (J2.out.1 y2)) (Int.le_refl _))⟩
      case measure => simp [intOf];omega
     ·have t2:decide (0 < x2) = false:=decide_eq_false y2
      obtain ⟨cel00,cel01⟩:=L.b0.a2
      obtain ⟨f00,f01⟩:=L.b0.f2
      obtain ⟨cel20,cel21⟩:=L.tl.tl.b0.a2
      obtain ⟨f20,f21⟩:=L.tl.tl.b0.f2
      go_wp2_with fail
      go_roundw
      case rel => exact ⟨t + 1,a,A,cc,a2,A2,c2,by go_num,by omega,L.twoZ (by simp) (by simp) (by simp) (by simp),Hd9 (HF.out.step HP.out (List.mem_of_getElem? HP.out) HF.out.2.1 (Int.le_of_lt (J1.out.1 y1)) (Int.le_refl _) (Int.le_refl _) (Int.not_lt.1 (fun h => absurd (J2.out.2 h) (by omega))))⟩
      case measure => simp [intOf];omega
    ·have t1:decide (x1 < 0) = false:=decide_eq_false y1
     obtain ⟨cel00,cel01⟩:=L.b0.a2
     obtain ⟨f00,f01⟩:=L.b0.f2
     obtain ⟨cel20,cel21⟩:=L.tl.tl.b0.a2
     go_wp2_with fail
     refine (C2.out _ _ _ (L.getZ (v:=.agg #[.bool (ng a),.slice A (zl a) cc]) (x:=a) (by simp)) (L.getZ (v:=.agg #[.bool (ng a2),.slice A2 (zl a2) c2]) (x:=a2) (by simp))).mono ?_
     rintro e w22 ⟨rfl,be⟩
     replace L:=L.step be
     clear be
     by_cases y2:0 < x2
     ·have t2:decide (0 < x2) = true:=decide_eq_true y2
      obtain ⟨cel00,cel01⟩:=L.b0.a2
      obtain ⟨f00,f01⟩:=L.b0.f2
      obtain ⟨cel20,cel21⟩:=L.tl.tl.b0.a2
      obtain ⟨f20,f21⟩:=L.tl.tl.b0.f2
      have P:=(L.pull2.putZ hg6 (by simp [n1,n2,n3,Ne.symm n1,Ne.symm n2,Ne.symm n3]) (ng a) A (zl a) cc)
      unfold put2 at P
      replace L:=P
      go_wp2_with fail
      go_roundw
      case rel => exact ⟨t + 1,a1,A1,c1,a,A,cc,by go_num,by omega,L.twoZ (by simp) (by simp) (by simp) (by simp),Hd9 (HF.out.step HP.out HF.out.1 (List.mem_of_getElem? HP.out) (Int.le_refl _) (Int.not_lt.1 (fun h => absurd (J1.out.2 h) (by omega))) (Int.le_of_lt (J2.out.1 y2)) (Int.le_refl _))⟩
      case measure => simp [intOf];omega
     ·have t2:decide (0 < x2) = false:=decide_eq_false y2
      obtain ⟨cel00,cel01⟩:=L.b0.a2
      obtain ⟨f00,f01⟩:=L.b0.f2
      obtain ⟨cel20,cel21⟩:=L.tl.tl.b0.a2
      obtain ⟨f20,f21⟩:=L.tl.tl.b0.f2
      go_wp2_with fail
      go_roundw
      case rel => exact ⟨t + 1,a1,A1,c1,a2,A2,c2,by go_num,by omega,L.twoZ (by simp) (by simp) (by simp) (by simp),Hd9 (HF.out.step HP.out HF.out.1 HF.out.2.1 (Int.le_refl _) (Int.not_lt.1 (fun h => absurd (J1.out.2 h) (by omega))) (Int.le_refl _) (Int.not_lt.1 (fun h => absurd (J2.out.2 h) (by omega))))⟩
      case measure => simp [intOf];omega

theorem rowZ_2 {w:World} {g:Nat} {a b:Int} {c d:Nat} {A B:Option Addr} (hv:Var w g 24 #[.bool (ng a),.slice A (zl a) c,.bool (ng b),.slice B (zl b) d]) (h1:IsN w (.slice A (zl a) c) a.natAbs) (h2:IsN w (.slice B (zl b) d) b.natAbs):RowZ w (.slice (some ⟨g,0,none⟩) 2 2) [a,b]:=by
  refine ⟨g,2,rfl,hv.lt,fun j p hp => ?_⟩
  match j with
  | 0 =>
    obtain rfl:a = p:=by simpa using hp
    exact ⟨A,c,hv.cell 0,hv.cell 1,isZ_s h1⟩
  | 1 =>
    obtain rfl:b = p:=by simpa using hp
    exact ⟨B,d,hv.cell 2,hv.cell 3,isZ_s h2⟩
  | j + 2 => simp at hp
theorem lst_2 {a b:Int} (h:a≤b):IsLstZ a [a,b]:=⟨by simp,fun p hp => by
 simp only [List.mem_cons,List.not_mem_nil,or_false] at hp
 rcases hp with rfl | rfl <;> omega⟩
theorem mst_2 {a b:Int} (h:a≤b):IsMstZ b [a,b]:=⟨by simp,fun p hp => by
 simp only [List.mem_cons,List.not_mem_nil,or_false] at hp
 rcases hp with rfl | rfl <;> omega⟩

theorem s13over_any (a b n:Int) (vx:Value) (w:World) (hx:IsS w vx a b) (la:zl a≤10000) (lb:zl b≤10000) (hab:a≤b) (h1:1≤n) (h2:n≤1000000) :
  Calls Tryz.prog 27 #[vx,.int .i64 n] w (RetSp w (a / n) (cdv b n)):=by
 obtain ⟨A,c,B,d,rfl,hn1,hn2⟩:=hx.form
 have L0:=((Lq.mk0 w).n hn2).n hn1
 have h3:=len_le1 (x:=n.natAbs) (by omega)
 have g0:=fun W => rzof_any n W (by omega) (by omega)
 have g1:=fun v u W (h:RowZ W v [a,b]) k => s13hull_any [a,b] a b n v u W h k (by simp) (by simp) (fun p hp => by
  simp only [List.mem_cons,List.not_mem_nil,or_false] at hp
  rcases hp with rfl | rfl <;> assumption) (lst_2 hab) (mst_2 hab) (show zl n≤10000 from Nat.le_trans h3 (by omega)) (by omega)
 obtain ⟨x,hx⟩:=nm9 (a / n)
 obtain ⟨y,hy⟩:=nm9 (cdv b n)
 rw [hx,hy] at g1
 rw [hx,hy]
 have H0:=Hd9 g0
 have H1:=Hd9 g1
 clear g0 g1 hx hy h3 hn1 hn2 la lb hab
 go_enter Tryz.func27,Tryz.ntmps27
 go_wp2_with fail
 have L:=((L0.varS (w.heap.size) (by simp) (ng a) A (zl a) c (ng b) B (zl b) d).varS (w.heap.size + 1) (by simp) false none 0 0 false none 0 0)
 have LB:=L
 replace L:=L.drew
 obtain ⟨c00,c01,c02,c03⟩:=L.b0.a4
 obtain ⟨f00,f01,f02,f03⟩:=L.b0.f4
 obtain ⟨c10,c11,c12,c13⟩:=L.tl.b0.a4
 go_region_held3 (fun w' => w'.cell? ⟨w.heap.size,0,none⟩ = some (.bool (ng a))∧w'.cell? ⟨w.heap.size,1,none⟩ = some (.slice A (zl a) c)∧w'.cell? ⟨w.heap.size,2,none⟩ = some (.bool (ng b))∧w'.cell? ⟨w.heap.size,3,none⟩ = some (.slice B (zl b) d)) (first | (with_reducible exact ⟨L.tl.b0.c40,L.tl.b0.c41,L.tl.b0.c42,L.tl.b0.c43⟩) | (with_reducible exact ⟨L.tl.tl.b0.c40,L.tl.tl.b0.c41,L.tl.tl.b0.c42,L.tl.tl.b0.c43⟩) | (have LN:=(LB.var (w.heap.size + 1 + 1) (by simp) 24 #[.bool (ng a),.slice A (zl a) c,.bool (ng b),.slice B (zl b) d] (plain4 _ _ _ _ _ _ _ _)).drew;with_reducible exact ⟨LN.tl.tl.b0.c40,LN.tl.tl.b0.c41,LN.tl.tl.b0.c42,LN.tl.tl.b0.c43⟩) | (have LN:=L.var _ rfl 24 #[.bool (ng a),.slice A (zl a) c,.bool (ng b),.slice B (zl b) d] (plain4 _ _ _ _ _ _ _ _);with_reducible exact ⟨LN.tl.tl.b0.c40,LN.tl.tl.b0.c41,LN.tl.tl.b0.c42,LN.tl.tl.b0.c43⟩) | (have LP:=L.swap.putS (by omega) (by first | (simp;done) | (simp;omega)) (ng x) A8 (zl x) c8 (ng y) B8 (zl y) d8;unfold put4 at LP;with_reducible exact ⟨LP.tl.tl.b0.c40,LP.tl.tl.b0.c41,LP.tl.tl.b0.c42,LP.tl.tl.b0.c43⟩)) (first | (go_at_call 60;(with_reducible refine (H0.out _).mono ?_);rintro e wh ⟨vh,rfl,iz,be⟩;(first | (replace L:=((LB.var (w.heap.size + 1 + 1) (by simp) 24 #[.bool (ng a),.slice A (zl a) c,.bool (ng b),.slice B (zl b) d] (plain4 _ _ _ _ _ _ _ _)).drew).step be) | (replace L:=(L.var _ rfl 24 #[.bool (ng a),.slice A (zl a) c,.bool (ng b),.slice B (zl b) d] (plain4 _ _ _ _ _ _ _ _)).step be) | (replace L:=L.step be));obtain ⟨A7,c7,rfl,in9⟩:=iz.form;replace L:=L.n in9;clear be iz in9;(first | (obtain ⟨x00,x01,x02,x03⟩:=L.tl.b0.a4;obtain ⟨y00,y01,y02,y03⟩:=L.tl.b0.f4) | (obtain ⟨x00,x01,x02,x03⟩:=L.b0.a4;obtain ⟨y00,y01,y02,y03⟩:=L.b0.f4) | skip)) | (go_at_call 79;have hl9:=L.b0.lt;have LN:=L.var _ rfl 24 #[.bool (ng a),.slice A (zl a) c,.bool (ng b),.slice B (zl b) d] (plain4 _ _ _ _ _ _ _ _);(with_reducible refine (H1.out _ _ _ ?_ ?_).mono ?_);(· (refine rowZ_2 LN.b0 (LN.getN ?_) (LN.getN ?_) <;> (repeat (first | (with_reducible exact mS) | apply mT))));(· (refine isZ_s (LN.getN ?_);(repeat (first | (with_reducible exact mS) | apply mT))));rintro e wh ⟨vh,rfl,iq,be⟩;obtain ⟨A8,c8,B8,d8,rfl,ia,ib⟩:=iq.form;replace L:=((LN.step be).n ib).n ia;clear be iq ia ib;(try (obtain ⟨x00,x01,x02,x03⟩:=L.tl.b0.a4;obtain ⟨y00,y01,y02,y03⟩:=L.tl.b0.f4))) | (go_at_call 79;(with_reducible refine (H1.out _ _ _ ?_ ?_).mono ?_);(· (refine rowZ_2 L.b0 (L.getN ?_) (L.getN ?_) <;> (repeat (first | (with_reducible exact mS) | apply mT))));(· (refine isZ_s (L.getN ?_);(repeat (first | (with_reducible exact mS) | apply mT))));rintro e wh ⟨vh,rfl,iq,be⟩;obtain ⟨A8,c8,B8,d8,rfl,ia,ib⟩:=iq.form;replace L:=((L.step be).n ib).n ia;clear be iq ia ib;(try (obtain ⟨x00,x01,x02,x03⟩:=L.tl.b0.a4;obtain ⟨y00,y01,y02,y03⟩:=L.tl.b0.f4))))
 clear c00 f00 c01 f01 c02 f02 c03 f03 c10 c11 c12 c13
 all_goals
  go_wp2_with fail
  replace L:=L.swap
  have LP:=L.putS (by omega) (by first | (simp;done) | (simp;omega)) (ng x) A8 (zl x) c8 (ng y) B8 (zl y) d8
  obtain ⟨k0,k1,k2,k3⟩:=LP.b0.a4
  unfold put4 at k0 k1 k2 k3
  exact bodyPost_ret (v:=.agg #[.bool (ng x),.slice A8 (zl x) c8,.bool (ng y),.slice B8 (zl y) d8]) (by simp [results,Tryz.results27,go_sem,k0,k1,k2,k3]) rfl ⟨_,rfl,isS_n (LP.getN (by simp)) (LP.getN (by simp)),LP.below⟩

theorem plain8 (b1:Bool) (A1:Option Addr) (n1 c1:Nat) (b2:Bool) (A2:Option Addr) (n2 c2:Nat) (b3:Bool) (A3:Option Addr) (n3 c3:Nat) (b4:Bool) (A4:Option Addr) (n4 c4:Nat):Plain #[.bool b1,.slice A1 n1 c1,.bool b2,.slice A2 n2 c2,.bool b3,.slice A3 n3 c3,.bool b4,.slice A4 n4 c4]:=fun j x => by
 match j with
 | 0 => simp
 | 1 => simp
 | 2 => simp
 | 3 => simp
 | 4 => simp
 | 5 => simp
 | 6 => simp
 | 7 => simp
 | j + 8 => simp
section
variable {w0 w:World} {ns:List (Value × Nat)} {zs:List (Value × Int)} {qs:List (Value × Int × Nat)} {bs:List (Nat × TypeId × Array Value)}
theorem Dq.boxMS (h:Dq w0 w ns zs qs bs) {k:Nat} (hk:w.heap.size = k) (b:Bool) (A:Option Addr) (p c:Nat) (b':Bool) (B:Option Addr) (q d:Nat):Dq w0 (w.alloc (.cells #[.bool b,.slice A p c,.bool b',.slice B q d] 53)) ns zs qs ((k,53,#[.bool b,.slice A p c,.bool b',.slice B q d]) :: bs):=by
 subst hk;exact h.boxS b A p c b' B q d
theorem Dq.putS (g:Nat) {b1 b2:Bool} {s t:Value} (h:Dq w0 w ns zs qs ((g,53,#[.bool b1,s,.bool b2,t]) :: bs)) (b:Bool) (A:Option Addr) (p c:Nat) (b':Bool) (B:Option Addr) (q d:Nat):Dq w0 (put4 w g b (.slice A p c) b' (.slice B q d)) ns zs qs ((g,53,#[.bool b,.slice A p c,.bool b',.slice B q d]) :: bs):=by
 have hn:=h.nodup
 rw [List.map_cons,List.nodup_cons] at hn
 refine ⟨h.lq.putS (h.ge _ (List.mem_cons_self ..)) (fun p hp e => hn.1 (List.mem_map.2 ⟨p,hp,e⟩)) b A p c b' B q d,?_,fun p hp => ?_⟩
 ·rw [List.map_cons,List.nodup_cons];exact hn
 ·rcases List.mem_cons.1 hp with rfl | hp
  ·exact h.ge (g,53,#[.bool b1,s,.bool b2,t]) (List.mem_cons_self ..)
  ·exact h.ge p (List.mem_cons_of_mem _ hp)
theorem Dq.boxR (h:Dq w0 w ns zs qs bs) (b1:Bool) (A1:Option Addr) (n1 c1:Nat) (b2:Bool) (A2:Option Addr) (n2 c2:Nat) (b3:Bool) (A3:Option Addr) (n3 c3:Nat) (b4:Bool) (A4:Option Addr) (n4 c4:Nat):Dq w0 (w.alloc (.cells #[.bool b1,.slice A1 n1 c1,.bool b2,.slice A2 n2 c2,.bool b3,.slice A3 n3 c3,.bool b4,.slice A4 n4 c4] 24)) ns zs qs ((w.heap.size,24,#[.bool b1,.slice A1 n1 c1,.bool b2,.slice A2 n2 c2,.bool b3,.slice A3 n3 c3,.bool b4,.slice A4 n4 c4]) :: bs):=by
 refine ⟨h.lq.var w.heap.size rfl _ _ (plain8 _ _ _ _ _ _ _ _ _ _ _ _ _ _ _ _),?_,fun p hp => ?_⟩
 ·rw [List.map_cons,List.nodup_cons]
  refine ⟨fun hm => ?_,h.nodup⟩
  obtain ⟨p,hp,e⟩:=List.mem_map.1 hm
  have:=(h.lq.bs p hp).lt
  omega
 ·rcases List.mem_cons.1 hp with rfl | hp
  ·exact h.lq.below.size
  ·exact h.ge p hp
theorem Dq.boxSR (h:Dq w0 w ns zs qs bs) (b:Bool) (A:Option Addr) (p c:Nat) (b':Bool) (B:Option Addr) (q d:Nat) (b1:Bool) (A1:Option Addr) (n1 c1:Nat) (b2:Bool) (A2:Option Addr) (n2 c2:Nat) (b3:Bool) (A3:Option Addr) (n3 c3:Nat) (b4:Bool) (A4:Option Addr) (n4 c4:Nat):Dq w0 ((w.alloc (.cells #[.bool b,.slice A p c,.bool b',.slice B q d] 53)).alloc (.cells #[.bool b1,.slice A1 n1 c1,.bool b2,.slice A2 n2 c2,.bool b3,.slice A3 n3 c3,.bool b4,.slice A4 n4 c4] 24)) ns zs qs ((w.heap.size + 1,24,#[.bool b1,.slice A1 n1 c1,.bool b2,.slice A2 n2 c2,.bool b3,.slice A3 n3 c3,.bool b4,.slice A4 n4 c4]) :: (w.heap.size,53,#[.bool b,.slice A p c,.bool b',.slice B q d]) :: bs):=by
 have:=(h.boxS b A p c b' B q d).boxR b1 A1 n1 c1 b2 A2 n2 c2 b3 A3 n3 c3 b4 A4 n4 c4
 rwa [show (w.alloc (.cells #[.bool b,.slice A p c,.bool b',.slice B q d] 53)).heap.size = w.heap.size + 1 from by simp] at this
theorem Dq.boxRS (h:Dq w0 w ns zs qs bs) (b:Bool) (A:Option Addr) (p c:Nat) (b':Bool) (B:Option Addr) (q d:Nat) (b1:Bool) (A1:Option Addr) (n1 c1:Nat) (b2:Bool) (A2:Option Addr) (n2 c2:Nat) (b3:Bool) (A3:Option Addr) (n3 c3:Nat) (b4:Bool) (A4:Option Addr) (n4 c4:Nat):Dq w0 ((w.alloc (.cells #[.bool b1,.slice A1 n1 c1,.bool b2,.slice A2 n2 c2,.bool b3,.slice A3 n3 c3,.bool b4,.slice A4 n4 c4] 24)).alloc (.cells #[.bool b,.slice A p c,.bool b',.slice B q d] 53)) ns zs qs ((w.heap.size + 1,53,#[.bool b,.slice A p c,.bool b',.slice B q d]) :: (w.heap.size,24,#[.bool b1,.slice A1 n1 c1,.bool b2,.slice A2 n2 c2,.bool b3,.slice A3 n3 c3,.bool b4,.slice A4 n4 c4]) :: bs):=by
 have:=(h.boxR b1 A1 n1 c1 b2 A2 n2 c2 b3 A3 n3 c3 b4 A4 n4 c4).boxS b A p c b' B q d
 rwa [show (w.alloc (.cells #[.bool b1,.slice A1 n1 c1,.bool b2,.slice A2 n2 c2,.bool b3,.slice A3 n3 c3,.bool b4,.slice A4 n4 c4] 24)).heap.size = w.heap.size + 1 from by simp] at this
end
theorem rowZ_4 {w:World} {g:Nat} {p1 p2 p3 p4:Int} {c1 c2 c3 c4:Nat} {A1 A2 A3 A4:Option Addr} (hv:Var w g 24 #[.bool (ng p1),.slice A1 (zl p1) c1,.bool (ng p2),.slice A2 (zl p2) c2,.bool (ng p3),.slice A3 (zl p3) c3,.bool (ng p4),.slice A4 (zl p4) c4]) (h1:IsN w (.slice A1 (zl p1) c1) p1.natAbs) (h2:IsN w (.slice A2 (zl p2) c2) p2.natAbs) (h3:IsN w (.slice A3 (zl p3) c3) p3.natAbs) (h4:IsN w (.slice A4 (zl p4) c4) p4.natAbs):RowZ w (.slice (some ⟨g,0,none⟩) 4 4) [p1,p2,p3,p4]:=by
  refine ⟨g,4,rfl,hv.lt,fun j p hp => ?_⟩
  match j with
  | 0 =>
    obtain rfl:p1 = p:=by simpa using hp
    exact ⟨A1,c1,hv.cell 0,hv.cell 1,isZ_s h1⟩
  | 1 =>
    obtain rfl:p2 = p:=by simpa using hp
    exact ⟨A2,c2,hv.cell 2,hv.cell 3,isZ_s h2⟩
  | 2 =>
    obtain rfl:p3 = p:=by simpa using hp
    exact ⟨A3,c3,hv.cell 4,hv.cell 5,isZ_s h3⟩
  | 3 =>
    obtain rfl:p4 = p:=by simpa using hp
    exact ⟨A4,c4,hv.cell 6,hv.cell 7,isZ_s h4⟩
  | j + 4 => simp at hp
theorem lst_4 (a b c d:Int):IsLstZ (mn4 a b c d) [a,b,c,d]:=by
 unfold mn4
 refine ⟨?_,fun p hp => ?_⟩ <;> simp only [List.mem_cons,List.not_mem_nil,or_false] at * <;> omega
theorem mst_4 (a b c d:Int):IsMstZ (mx4 a b c d) [a,b,c,d]:=by
 unfold mx4
 refine ⟨?_,fun p hp => ?_⟩ <;> simp only [List.mem_cons,List.not_mem_nil,or_false] at * <;> omega
def Made1S (w0:World) (a b:Int) (s:Value) (w':World):Prop:=∃ g A c B d,s = .pointer (some ⟨g,0,none⟩)∧w0.heap.size≤g∧Below w0.heap.size w0 w'∧Var w' g 53 #[.bool (ng a),.slice A (zl a) c,.bool (ng b),.slice B (zl b) d]∧IsN w' (.slice A (zl a) c) a.natAbs∧IsN w' (.slice B (zl b) d) b.natAbs
section
variable {w0 w:World} {ns:List (Value × Nat)} {zs:List (Value × Int)} {qs:List (Value × Int × Nat)} {bs:List (Nat × TypeId × Array Value)} {a b:Int} {c d:Nat} {A B:Option Addr}
theorem made1s_of {w':World} {g:Nat} (D:Dq w0 w' ns zs qs ((g,53,#[.bool (ng a),.slice A (zl a) c,.bool (ng b),.slice B (zl b) d]) :: bs)) (h:(.slice A (zl a) c,a.natAbs) ∈ ns) (h2:(.slice B (zl b) d,b.natAbs) ∈ ns):Made1S w0 a b (.pointer (some ⟨g,0,none⟩)) w':=
 ⟨g,A,c,B,d,rfl,D.ge _ (List.mem_cons_self ..),D.lq.below,D.lq.b0,D.getN h,D.getN h2⟩
theorem made1s_a (D:Dq w0 w ns zs qs bs) (h:(.slice A (zl a) c,a.natAbs) ∈ ns) (h2:(.slice B (zl b) d,b.natAbs) ∈ ns) :
  Made1S w0 a b (.pointer (some ⟨w.heap.size,0,none⟩)) (w.alloc (.cells #[.bool (ng a),.slice A (zl a) c,.bool (ng b),.slice B (zl b) d] 53)):=made1s_of (D.boxS _ _ _ _ _ _ _ _) h h2
theorem made1s_b {g:Nat} {b1 b2:Bool} {s t:Value} (D:Dq w0 w ns zs qs ((g,53,#[.bool b1,s,.bool b2,t]) :: bs)) (h:(.slice A (zl a) c,a.natAbs) ∈ ns) (h2:(.slice B (zl b) d,b.natAbs) ∈ ns) :
  Made1S w0 a b (.pointer (some ⟨g,0,none⟩)) ((((w.setCell ⟨g,0,none⟩ (.bool (ng a))).setCell ⟨g,1,none⟩ (.slice A (zl a) c)).setCell ⟨g,2,none⟩ (.bool (ng b))).setCell ⟨g,3,none⟩ (.slice B (zl b) d)):=made1s_of (D.putS g (ng a) A (zl a) c (ng b) B (zl b) d) h h2
end

theorem s13mul_any (a b m n:Int) (v:Nat) (vx vy:Value) (w:World) (hx:IsS w vx a b) (hy:IsS w vy m n) (la:zl a≤4000) (lb:zl b≤4000) (lm:zl m≤4000) (ln:zl n≤4000) (hv:v≤100000) :
  Calls Tryz.prog 127 #[vx,vy,.int .i64 (v:Int)] w (RetSp w (mn4 (a * m) (a * n) (b * m) (b * n) / 2 ^ v) (cdv (mx4 (a * m) (a * n) (b * m) (b * n)) (2 ^ v))):=by
 obtain ⟨A,c,B,d,rfl,hn1,hn2⟩:=hx.form
 obtain ⟨E,k,G,i,rfl,hn3,hn4⟩:=hy.form
 have L0:=((((Lq.mk0 w).n hn4).n hn3).n hn2).n hn1
 have pv:=pow2_pos v
 have z1:=zl_mul a m
 have z2:=zl_mul a n
 have z3:=zl_mul b m
 have z4:=zl_mul b n
 have g1:=fun x y W h k => rzmul_any a m x y W h k (by omega) (by omega)
 have g2:=fun x y W h k => rzmul_any a n x y W h k (by omega) (by omega)
 have g3:=fun x y W h k => rzmul_any b m x y W h k (by omega) (by omega)
 have g4:=fun x y W h k => rzmul_any b n x y W h k (by omega) (by omega)
 obtain ⟨p1,hp1⟩:=nm9 (a * m)
 rw [hp1] at g1 z1 ⊢
 obtain ⟨p2,hp2⟩:=nm9 (a * n)
 rw [hp2] at g2 z2 ⊢
 obtain ⟨p3,hp3⟩:=nm9 (b * m)
 rw [hp3] at g3 z3 ⊢
 obtain ⟨p4,hp4⟩:=nm9 (b * n)
 rw [hp4] at g4 z4 ⊢
 obtain ⟨o,ho⟩:∃ o:Int,1 = o:=⟨_,rfl⟩
 have zo:zl o≤1:=len_le1 (x:=o.natAbs) (by omega)
 have g5:=fun W => rzof_any 1 W (by omega) (by omega)
 have hlo:=lst_4 p1 p2 p3 p4
 have hhi:=mst_4 p1 p2 p3 p4
 have zX:zl (mn4 p1 p2 p3 p4)≤8001:=by
  have:=hlo.1
  simp only [List.mem_cons,List.not_mem_nil,or_false] at this
  rcases this with h | h | h | h <;> rw [h] <;> omega
 have zY:zl (mx4 p1 p2 p3 p4)≤8001:=by
  have:=hhi.1
  simp only [List.mem_cons,List.not_mem_nil,or_false] at this
  rcases this with h | h | h | h <;> rw [h] <;> omega
 have g6:=fun v u W (h:RowZ W v [p1,p2,p3,p4]) k => s13hull_any [p1,p2,p3,p4] (mn4 p1 p2 p3 p4) (mx4 p1 p2 p3 p4) o v u W h k (by simp) (by simp) (fun p hp => by
  simp only [List.mem_cons,List.not_mem_nil,or_false] at hp
  rcases hp with rfl | rfl | rfl | rfl <;> omega) hlo hhi (by omega) (by omega)
 obtain ⟨X,hX⟩:=nm9 (mn4 p1 p2 p3 p4)
 obtain ⟨Y,hY⟩:=nm9 (mx4 p1 p2 p3 p4)
 rw [hX] at g6 zX ⊢
 rw [hY] at g6 zY ⊢
 have e1:X / o = X:=by rw [← ho];exact Int.ediv_one X
 have e2:cdv Y o = Y:=by rw [← ho];exact cdv_one Y
 rw [e1,e2] at g6
 rw [show ((1:Int)) = o from ho] at g5
 unfold cdv
 have y1:=zl_neg Y
 have y2:=zl_floor (-Y) pv
 have y3:=zl_floor X pv
 have h1:=fun x W h => rzshr_any X x W h (by omega) v (by omega)
 have h2:=fun x W h => rzneg_any Y x W h (by omega)
 have h3:=fun x W h => rzshr_any (-Y) x W h (by omega) v (by omega)
 have h4:=fun x W h => rzneg_any (-Y / 2 ^ v) x W h (by omega)
 obtain ⟨x,hx⟩:=nm9 (X / 2 ^ v)
 rw [hx] at h1 ⊢
 obtain ⟨q,hq⟩:=nm9 (-Y)
 rw [hq] at h2 h3 h4 ⊢
 obtain ⟨r,hr⟩:=nm9 (q / 2 ^ v)
 rw [hr] at h3 h4 ⊢
 obtain ⟨y,hy⟩:=nm9 (-r)
 rw [hy] at h4 ⊢
 have G1:=Hd9 g1
 clear g1
 have G2:=Hd9 g2
 clear g2
 have G3:=Hd9 g3
 clear g3
 have G4:=Hd9 g4
 clear g4
 have G5:=Hd9 g5
 clear g5
 have G6:=Hd9 g6
 clear g6
 have H1:=Hd9 h1
 clear h1
 have H2:=Hd9 h2
 clear h2
 have H3:=Hd9 h3
 clear h3
 have H4:=Hd9 h4
 clear h4
 clear hlo hhi zX zY e1 e2 y1 y2 y3 hX hY hx hy hq hr hn1 hn2 hn3 hn4 la lb lm ln zo pv z1 z2 z3 z4 hp1 hp2 hp3 hp4
 go_enter Tryz.func127,Tryz.ntmps127
 go_wp2_with fail
 have L:=(((L0.varS (w.heap.size) (by simp) (ng a) A (zl a) c (ng b) B (zl b) d).varS (w.heap.size + 1) (by simp) (ng m) E (zl m) k (ng n) G (zl n) i).varS (w.heap.size + 2) (by simp) false none 0 0 false none 0 0)
 (try go_wp2_with fail)
 obtain ⟨V,hV⟩:=nm9 (((w.alloc (.cells #[.bool (ng a),.slice A (zl a) c,.bool (ng b),.slice B (zl b) d] 53)).alloc (.cells #[.bool (ng m),.slice E (zl m) k,.bool (ng n),.slice G (zl n) i] 53)).alloc (.cells #[.bool false,.slice none 0 0,.bool false,.slice none 0 0] 53))
 rw [hV] at L ⊢
 clear hV
 have Q0:=Hd9 (fun Z (hZ:Below V.heap.size V Z) => (L.tl.tl.b0.mono hZ).c40)
 have Q1:=Hd9 (fun Z (hZ:Below V.heap.size V Z) => (L.tl.tl.b0.mono hZ).c41)
 have Q2:=Hd9 (fun Z (hZ:Below V.heap.size V Z) => (L.tl.tl.b0.mono hZ).c42)
 have Q3:=Hd9 (fun Z (hZ:Below V.heap.size V Z) => (L.tl.tl.b0.mono hZ).c43)
 have Q4:=Hd9 (fun Z (hZ:Below V.heap.size V Z) => (L.tl.b0.mono hZ).c40)
 have Q5:=Hd9 (fun Z (hZ:Below V.heap.size V Z) => (L.tl.b0.mono hZ).c41)
 have Q6:=Hd9 (fun Z (hZ:Below V.heap.size V Z) => (L.tl.b0.mono hZ).c42)
 have Q7:=Hd9 (fun Z (hZ:Below V.heap.size V Z) => (L.tl.b0.mono hZ).c43)
 have hb1:=L.tl.tl.b0.lt
 have hb2:=L.tl.b0.lt
 have hb3:=L.b0.lt
 have D0:Dq V V [(.slice A (zl a) c,a.natAbs),(.slice B (zl b) d,b.natAbs),(.slice E (zl m) k,m.natAbs),(.slice G (zl n) i,n.natAbs)] [] [] []:=⟨((((Lq.mk0 V).n (L.getN (v:=.slice G (zl n) i) (x:=(n).natAbs) (by simp))).n (L.getN (v:=.slice E (zl m) k) (x:=(m).natAbs) (by simp))).n (L.getN (v:=.slice B (zl b) d) (x:=(b).natAbs) (by simp))).n (L.getN (v:=.slice A (zl a) c) (x:=(a).natAbs) (by simp)),List.nodup_nil,fun p hp => by cases hp⟩
 have D:=D0.drew
 have LL:=Hd9 L
 clear L L0
 obtain ⟨K,hK⟩:=nm9 (V.heap.size)
 have hz0:K≤V.heap.size:=by omega
 have hc1:w.heap.size < K:=by omega
 have hc2:w.heap.size + 1 < K:=by omega
 have hmd:V.drew.heap.size = K:=hK
 go_cut [7] from 8 to 30 (fun s7 wx => Made1S V X Y s7 wx)
 case first =>
  go_region_held3 (fun w' => w'.cell? ⟨w.heap.size,0,none⟩ = some (.bool (ng a))∧w'.cell? ⟨w.heap.size,1,none⟩ = some (.slice A (zl a) c)∧w'.cell? ⟨w.heap.size,2,none⟩ = some (.bool (ng b))∧w'.cell? ⟨w.heap.size,3,none⟩ = some (.slice B (zl b) d)∧w'.cell? ⟨w.heap.size + 1,0,none⟩ = some (.bool (ng m))∧w'.cell? ⟨w.heap.size + 1,1,none⟩ = some (.slice E (zl m) k)∧w'.cell? ⟨w.heap.size + 1,2,none⟩ = some (.bool (ng n))∧w'.cell? ⟨w.heap.size + 1,3,none⟩ = some (.slice G (zl n) i)) (((try dsimp only);refine ⟨?_,?_,?_,?_,?_,?_,?_,?_⟩ <;> (repeat (first | (with_reducible exact Q0.out _ D.lq.below) | (with_reducible exact Q0.out _ D0.lq.below) | (with_reducible exact Q1.out _ D.lq.below) | (with_reducible exact Q1.out _ D0.lq.below) | (with_reducible exact Q2.out _ D.lq.below) | (with_reducible exact Q2.out _ D0.lq.below) | (with_reducible exact Q3.out _ D.lq.below) | (with_reducible exact Q3.out _ D0.lq.below) | (with_reducible exact Q4.out _ D.lq.below) | (with_reducible exact Q4.out _ D0.lq.below) | (with_reducible exact Q5.out _ D.lq.below) | (with_reducible exact Q5.out _ D0.lq.below) | (with_reducible exact Q6.out _ D.lq.below) | (with_reducible exact Q6.out _ D0.lq.below) | (with_reducible exact Q7.out _ D.lq.below) | (with_reducible exact Q7.out _ D0.lq.below) | (with_reducible refine c_alloc _ ?_) | (with_reducible refine c_drew ?_) | (with_reducible refine c_set ?_ (by assumption) ?_) | omega)))) (first | (go_at_call 78;(with_reducible refine (G1.out _ _ _ ?_ ?_).mono ?_);(· (first | (with_reducible refine isZ_s (D.getN ?_);(repeat (first | (with_reducible exact mS) | apply mT));done) | (with_reducible refine isZ_s ((D.boxS false none 0 0 false none 0 0).getN ?_);(repeat (first | (with_reducible exact mS) | apply mT));done) | (with_reducible refine isZ_s ((D0.boxS false none 0 0 false none 0 0).drew.getN ?_);(repeat (first | (with_reducible exact mS) | apply mT));done)));(· (first | (with_reducible refine isZ_s (D.getN ?_);(repeat (first | (with_reducible exact mS) | apply mT));done) | (with_reducible refine isZ_s ((D.boxS false none 0 0 false none 0 0).getN ?_);(repeat (first | (with_reducible exact mS) | apply mT));done) | (with_reducible refine isZ_s ((D0.boxS false none 0 0 false none 0 0).drew.getN ?_);(repeat (first | (with_reducible exact mS) | apply mT));done)));rintro e9 wh ⟨vh,rfl,iz,be⟩;obtain ⟨A5,c5,rfl,in9⟩:=iz.form;(first | (replace D:=D.step be) | (replace D:=(D.boxMS hmd false none 0 0 false none 0 0).step be) | (replace D:=(D.boxS false none 0 0 false none 0 0).step be));replace D:=D.n in9;clear iz in9;have hz:=be.size;(try simp at hz);(try (obtain ⟨q00,q01,q02,q03⟩:=D.lq.b0.a4;obtain ⟨z00,z01,z02,z03⟩:=D.lq.b0.f4));(try (obtain ⟨q10,q11,q12,q13⟩:=D.lq.tl.b0.a4;obtain ⟨z10,z11,z12,z13⟩:=D.lq.tl.b0.f4));(try obtain ⟨na,nb,nc,nd,nl⟩:=D.n0);(try obtain ⟨ne,nf,ng',nh,nm⟩:=D.n1);(try obtain ⟨ni,nj⟩:=D.n01)) | (go_at_call 78;(with_reducible refine (G2.out _ _ _ ?_ ?_).mono ?_);(· (first | (with_reducible refine isZ_s (D.getN ?_);(repeat (first | (with_reducible exact mS) | apply mT));done) | (with_reducible refine isZ_s ((D.boxS false none 0 0 false none 0 0).getN ?_);(repeat (first | (with_reducible exact mS) | apply mT));done) | (with_reducible refine isZ_s ((D0.boxS false none 0 0 false none 0 0).drew.getN ?_);(repeat (first | (with_reducible exact mS) | apply mT));done)));(· (first | (with_reducible refine isZ_s (D.getN ?_);(repeat (first | (with_reducible exact mS) | apply mT));done) | (with_reducible refine isZ_s ((D.boxS false none 0 0 false none 0 0).getN ?_);(repeat (first | (with_reducible exact mS) | apply mT));done) | (with_reducible refine isZ_s ((D0.boxS false none 0 0 false none 0 0).drew.getN ?_);(repeat (first | (with_reducible exact mS) | apply mT));done)));rintro e9 wh ⟨vh,rfl,iz,be⟩;obtain ⟨A6,c6,rfl,in9⟩:=iz.form;(first | (replace D:=D.step be) | (replace D:=(D.boxMS hmd false none 0 0 false none 0 0).step be) | (replace D:=(D.boxS false none 0 0 false none 0 0).step be));replace D:=D.n in9;clear iz in9;have hz:=be.size;(try simp at hz);(try (obtain ⟨q00,q01,q02,q03⟩:=D.lq.b0.a4;obtain ⟨z00,z01,z02,z03⟩:=D.lq.b0.f4));(try (obtain ⟨q10,q11,q12,q13⟩:=D.lq.tl.b0.a4;obtain ⟨z10,z11,z12,z13⟩:=D.lq.tl.b0.f4));(try obtain ⟨na,nb,nc,nd,nl⟩:=D.n0);(try obtain ⟨ne,nf,ng',nh,nm⟩:=D.n1);(try obtain ⟨ni,nj⟩:=D.n01)) | (go_at_call 78;(with_reducible refine (G3.out _ _ _ ?_ ?_).mono ?_);(· (first | (with_reducible refine isZ_s (D.getN ?_);(repeat (first | (with_reducible exact mS) | apply mT));done) | (with_reducible refine isZ_s ((D.boxS false none 0 0 false none 0 0).getN ?_);(repeat (first | (with_reducible exact mS) | apply mT));done) | (with_reducible refine isZ_s ((D0.boxS false none 0 0 false none 0 0).drew.getN ?_);(repeat (first | (with_reducible exact mS) | apply mT));done)));(· (first | (with_reducible refine isZ_s (D.getN ?_);(repeat (first | (with_reducible exact mS) | apply mT));done) | (with_reducible refine isZ_s ((D.boxS false none 0 0 false none 0 0).getN ?_);(repeat (first | (with_reducible exact mS) | apply mT));done) | (with_reducible refine isZ_s ((D0.boxS false none 0 0 false none 0 0).drew.getN ?_);(repeat (first | (with_reducible exact mS) | apply mT));done)));rintro e9 wh ⟨vh,rfl,iz,be⟩;obtain ⟨A7,c7,rfl,in9⟩:=iz.form;(first | (replace D:=D.step be) | (replace D:=(D.boxMS hmd false none 0 0 false none 0 0).step be) | (replace D:=(D.boxS false none 0 0 false none 0 0).step be));replace D:=D.n in9;clear iz in9;have hz:=be.size;(try simp at hz);(try (obtain ⟨q00,q01,q02,q03⟩:=D.lq.b0.a4;obtain ⟨z00,z01,z02,z03⟩:=D.lq.b0.f4));(try (obtain ⟨q10,q11,q12,q13⟩:=D.lq.tl.b0.a4;obtain ⟨z10,z11,z12,z13⟩:=D.lq.tl.b0.f4));(try obtain ⟨na,nb,nc,nd,nl⟩:=D.n0);(try obtain ⟨ne,nf,ng',nh,nm⟩:=D.n1);(try obtain ⟨ni,nj⟩:=D.n01)) | (go_at_call 78;(with_reducible refine (G4.out _ _ _ ?_ ?_).mono ?_);(· (first | (with_reducible refine isZ_s (D.getN ?_);(repeat (first | (with_reducible exact mS) | apply mT));done) | (with_reducible refine isZ_s ((D.boxS false none 0 0 false none 0 0).getN ?_);(repeat (first | (with_reducible exact mS) | apply mT));done) | (with_reducible refine isZ_s ((D0.boxS false none 0 0 false none 0 0).drew.getN ?_);(repeat (first | (with_reducible exact mS) | apply mT));done)));(· (first | (with_reducible refine isZ_s (D.getN ?_);(repeat (first | (with_reducible exact mS) | apply mT));done) | (with_reducible refine isZ_s ((D.boxS false none 0 0 false none 0 0).getN ?_);(repeat (first | (with_reducible exact mS) | apply mT));done) | (with_reducible refine isZ_s ((D0.boxS false none 0 0 false none 0 0).drew.getN ?_);(repeat (first | (with_reducible exact mS) | apply mT));done)));rintro e9 wh ⟨vh,rfl,iz,be⟩;obtain ⟨A8,c8,rfl,in9⟩:=iz.form;(first | (replace D:=D.step be) | (replace D:=(D.boxMS hmd false none 0 0 false none 0 0).step be) | (replace D:=(D.boxS false none 0 0 false none 0 0).step be));replace D:=D.n in9;clear iz in9;have hz:=be.size;(try simp at hz);(try (obtain ⟨q00,q01,q02,q03⟩:=D.lq.b0.a4;obtain ⟨z00,z01,z02,z03⟩:=D.lq.b0.f4));(try (obtain ⟨q10,q11,q12,q13⟩:=D.lq.tl.b0.a4;obtain ⟨z10,z11,z12,z13⟩:=D.lq.tl.b0.f4));(try obtain ⟨na,nb,nc,nd,nl⟩:=D.n0);(try obtain ⟨ne,nf,ng',nh,nm⟩:=D.n1);(try obtain ⟨ni,nj⟩:=D.n01)) | (go_at_call 60;(with_reducible refine (G5.out _).mono ?_);rintro e9 wh ⟨vh,rfl,iz,be⟩;obtain ⟨A9,c9,rfl,in9⟩:=iz.form;(first | (replace D:=D.step be) | (replace D:=(D.boxR (ng p1) A5 (zl p1) c5 (ng p2) A6 (zl p2) c6 (ng p3) A7 (zl p3) c7 (ng p4) A8 (zl p4) c8).step be) | (replace D:=(D.boxS false none 0 0 false none 0 0).step be) | (replace D:=(D.boxSR false none 0 0 false none 0 0 (ng p1) A5 (zl p1) c5 (ng p2) A6 (zl p2) c6 (ng p3) A7 (zl p3) c7 (ng p4) A8 (zl p4) c8).step be) | (replace D:=(D.boxRS false none 0 0 false none 0 0 (ng p1) A5 (zl p1) c5 (ng p2) A6 (zl p2) c6 (ng p3) A7 (zl p3) c7 (ng p4) A8 (zl p4) c8).step be));replace D:=D.n in9;clear iz in9;have hz:=be.size;(try simp at hz);(try (obtain ⟨q00,q01,q02,q03⟩:=D.lq.b0.a4;obtain ⟨z00,z01,z02,z03⟩:=D.lq.b0.f4));(try (obtain ⟨q10,q11,q12,q13⟩:=D.lq.tl.b0.a4;obtain ⟨z10,z11,z12,z13⟩:=D.lq.tl.b0.f4));(try obtain ⟨na,nb,nc,nd,nl⟩:=D.n0);(try obtain ⟨ne,nf,ng',nh,nm⟩:=D.n1);(try obtain ⟨ni,nj⟩:=D.n01)) | (go_at_call 79;(with_reducible refine (G6.out _ _ _ ?_ ?_).mono ?_);(· (first | (with_reducible refine rowZ_4 D.lq.b0 (D.getN ?_) (D.getN ?_) (D.getN ?_) (D.getN ?_) <;> (repeat (first | (with_reducible exact mS) | apply mT));done) | (with_reducible refine rowZ_4 D.lq.tl.b0 (D.getN ?_) (D.getN ?_) (D.getN ?_) (D.getN ?_) <;> (repeat (first | (with_reducible exact mS) | apply mT));done) | (with_reducible refine rowZ_4 (D.boxR (ng p1) A5 (zl p1) c5 (ng p2) A6 (zl p2) c6 (ng p3) A7 (zl p3) c7 (ng p4) A8 (zl p4) c8).lq.b0 ((D.boxR (ng p1) A5 (zl p1) c5 (ng p2) A6 (zl p2) c6 (ng p3) A7 (zl p3) c7 (ng p4) A8 (zl p4) c8).getN ?_) ((D.boxR (ng p1) A5 (zl p1) c5 (ng p2) A6 (zl p2) c6 (ng p3) A7 (zl p3) c7 (ng p4) A8 (zl p4) c8).getN ?_) ((D.boxR (ng p1) A5 (zl p1) c5 (ng p2) A6 (zl p2) c6 (ng p3) A7 (zl p3) c7 (ng p4) A8 (zl p4) c8).getN ?_) ((D.boxR (ng p1) A5 (zl p1) c5 (ng p2) A6 (zl p2) c6 (ng p3) A7 (zl p3) c7 (ng p4) A8 (zl p4) c8).getN ?_) <;> (repeat (first | (with_reducible exact mS) | apply mT));done) | (with_reducible refine rowZ_4 (D.boxR (ng p1) A5 (zl p1) c5 (ng p2) A6 (zl p2) c6 (ng p3) A7 (zl p3) c7 (ng p4) A8 (zl p4) c8).lq.tl.b0 ((D.boxR (ng p1) A5 (zl p1) c5 (ng p2) A6 (zl p2) c6 (ng p3) A7 (zl p3) c7 (ng p4) A8 (zl p4) c8).getN ?_) ((D.boxR (ng p1) A5 (zl p1) c5 (ng p2) A6 (zl p2) c6 (ng p3) A7 (zl p3) c7 (ng p4) A8 (zl p4) c8).getN ?_) ((D.boxR (ng p1) A5 (zl p1) c5 (ng p2) A6 (zl p2) c6 (ng p3) A7 (zl p3) c7 (ng p4) A8 (zl p4) c8).getN ?_) ((D.boxR (ng p1) A5 (zl p1) c5 (ng p2) A6 (zl p2) c6 (ng p3) A7 (zl p3) c7 (ng p4) A8 (zl p4) c8).getN ?_) <;> (repeat (first | (with_reducible exact mS) | apply mT));done) | (with_reducible refine rowZ_4 (D.boxS false none 0 0 false none 0 0).lq.b0 ((D.boxS false none 0 0 false none 0 0).getN ?_) ((D.boxS false none 0 0 false none 0 0).getN ?_) ((D.boxS false none 0 0 false none 0 0).getN ?_) ((D.boxS false none 0 0 false none 0 0).getN ?_) <;> (repeat (first | (with_reducible exact mS) | apply mT));done) | (with_reducible refine rowZ_4 (D.boxS false none 0 0 false none 0 0).lq.tl.b0 ((D.boxS false none 0 0 false none 0 0).getN ?_) ((D.boxS false none 0 0 false none 0 0).getN ?_) ((D.boxS false none 0 0 false none 0 0).getN ?_) ((D.boxS false none 0 0 false none 0 0).getN ?_) <;> (repeat (first | (with_reducible exact mS) | apply mT));done) | (with_reducible refine rowZ_4 (D.boxSR false none 0 0 false none 0 0 (ng p1) A5 (zl p1) c5 (ng p2) A6 (zl p2) c6 (ng p3) A7 (zl p3) c7 (ng p4) A8 (zl p4) c8).lq.b0 ((D.boxSR false none 0 0 false none 0 0 (ng p1) A5 (zl p1) c5 (ng p2) A6 (zl p2) c6 (ng p3) A7 (zl p3) c7 (ng p4) A8 (zl p4) c8).getN ?_) ((D.boxSR false none 0 0 false none 0 0 (ng p1) A5 (zl p1) c5 (ng p2) A6 (zl p2) c6 (ng p3) A7 (zl p3) c7 (ng p4) A8 (zl p4) c8).getN ?_) ((D.boxSR false none 0 0 false none 0 0 (ng p1) A5 (zl p1) c5 (ng p2) A6 (zl p2) c6 (ng p3) A7 (zl p3) c7 (ng p4) A8 (zl p4) c8).getN ?_) ((D.boxSR false none 0 0 false none 0 0 (ng p1) A5 (zl p1) c5 (ng p2) A6 (zl p2) c6 (ng p3) A7 (zl p3) c7 (ng p4) A8 (zl p4) c8).getN ?_) <;> (repeat (first | (with_reducible exact mS) | apply mT));done) | (with_reducible refine rowZ_4 (D.boxSR false none 0 0 false none 0 0 (ng p1) A5 (zl p1) c5 (ng p2) A6 (zl p2) c6 (ng p3) A7 (zl p3) c7 (ng p4) A8 (zl p4) c8).lq.tl.b0 ((D.boxSR false none 0 0 false none 0 0 (ng p1) A5 (zl p1) c5 (ng p2) A6 (zl p2) c6 (ng p3) A7 (zl p3) c7 (ng p4) A8 (zl p4) c8).getN ?_) ((D.boxSR false none 0 0 false none 0 0 (ng p1) A5 (zl p1) c5 (ng p2) A6 (zl p2) c6 (ng p3) A7 (zl p3) c7 (ng p4) A8 (zl p4) c8).getN ?_) ((D.boxSR false none 0 0 false none 0 0 (ng p1) A5 (zl p1) c5 (ng p2) A6 (zl p2) c6 (ng p3) A7 (zl p3) c7 (ng p4) A8 (zl p4) c8).getN ?_) ((D.boxSR false none 0 0 false none 0 0 (ng p1) A5 (zl p1) c5 (ng p2) A6 (zl p2) c6 (ng p3) A7 (zl p3) c7 (ng p4) A8 (zl p4) c8).getN ?_) <;> (repeat (first | (with_reducible exact mS) | apply mT));done) | (with_reducible refine rowZ_4 (D.boxRS false none 0 0 false none 0 0 (ng p1) A5 (zl p1) c5 (ng p2) A6 (zl p2) c6 (ng p3) A7 (zl p3) c7 (ng p4) A8 (zl p4) c8).lq.b0 ((D.boxRS false none 0 0 false none 0 0 (ng p1) A5 (zl p1) c5 (ng p2) A6 (zl p2) c6 (ng p3) A7 (zl p3) c7 (ng p4) A8 (zl p4) c8).getN ?_) ((D.boxRS false none 0 0 false none 0 0 (ng p1) A5 (zl p1) c5 (ng p2) A6 (zl p2) c6 (ng p3) A7 (zl p3) c7 (ng p4) A8 (zl p4) c8).getN ?_) ((D.boxRS false none 0 0 false none 0 0 (ng p1) A5 (zl p1) c5 (ng p2) A6 (zl p2) c6 (ng p3) A7 (zl p3) c7 (ng p4) A8 (zl p4) c8).getN ?_) ((D.boxRS false none 0 0 false none 0 0 (ng p1) A5 (zl p1) c5 (ng p2) A6 (zl p2) c6 (ng p3) A7 (zl p3) c7 (ng p4) A8 (zl p4) c8).getN ?_) <;> (repeat (first | (with_reducible exact mS) | apply mT));done) | (with_reducible refine rowZ_4 (D.boxRS false none 0 0 false none 0 0 (ng p1) A5 (zl p1) c5 (ng p2) A6 (zl p2) c6 (ng p3) A7 (zl p3) c7 (ng p4) A8 (zl p4) c8).lq.tl.b0 ((D.boxRS false none 0 0 false none 0 0 (ng p1) A5 (zl p1) c5 (ng p2) A6 (zl p2) c6 (ng p3) A7 (zl p3) c7 (ng p4) A8 (zl p4) c8).getN ?_) ((D.boxRS false none 0 0 false none 0 0 (ng p1) A5 (zl p1) c5 (ng p2) A6 (zl p2) c6 (ng p3) A7 (zl p3) c7 (ng p4) A8 (zl p4) c8).getN ?_) ((D.boxRS false none 0 0 false none 0 0 (ng p1) A5 (zl p1) c5 (ng p2) A6 (zl p2) c6 (ng p3) A7 (zl p3) c7 (ng p4) A8 (zl p4) c8).getN ?_) ((D.boxRS false none 0 0 false none 0 0 (ng p1) A5 (zl p1) c5 (ng p2) A6 (zl p2) c6 (ng p3) A7 (zl p3) c7 (ng p4) A8 (zl p4) c8).getN ?_) <;> (repeat (first | (with_reducible exact mS) | apply mT));done)));(· (first | (with_reducible refine isZ_s (D.getN ?_);(repeat (first | (with_reducible exact mS) | apply mT));done) | (with_reducible refine isZ_s ((D.boxR (ng p1) A5 (zl p1) c5 (ng p2) A6 (zl p2) c6 (ng p3) A7 (zl p3) c7 (ng p4) A8 (zl p4) c8).getN ?_);(repeat (first | (with_reducible exact mS) | apply mT));done) | (with_reducible refine isZ_s ((D.boxS false none 0 0 false none 0 0).getN ?_);(repeat (first | (with_reducible exact mS) | apply mT));done) | (with_reducible refine isZ_s ((D.boxSR false none 0 0 false none 0 0 (ng p1) A5 (zl p1) c5 (ng p2) A6 (zl p2) c6 (ng p3) A7 (zl p3) c7 (ng p4) A8 (zl p4) c8).getN ?_);(repeat (first | (with_reducible exact mS) | apply mT));done) | (with_reducible refine isZ_s ((D.boxRS false none 0 0 false none 0 0 (ng p1) A5 (zl p1) c5 (ng p2) A6 (zl p2) c6 (ng p3) A7 (zl p3) c7 (ng p4) A8 (zl p4) c8).getN ?_);(repeat (first | (with_reducible exact mS) | apply mT));done)));rintro e9 wh ⟨vh,rfl,iq,be⟩;obtain ⟨A3,c3,B3,d3,rfl,ia,ib⟩:=iq.form;(first | (replace D:=D.step be) | (replace D:=(D.boxR (ng p1) A5 (zl p1) c5 (ng p2) A6 (zl p2) c6 (ng p3) A7 (zl p3) c7 (ng p4) A8 (zl p4) c8).step be) | (replace D:=(D.boxS false none 0 0 false none 0 0).step be) | (replace D:=(D.boxSR false none 0 0 false none 0 0 (ng p1) A5 (zl p1) c5 (ng p2) A6 (zl p2) c6 (ng p3) A7 (zl p3) c7 (ng p4) A8 (zl p4) c8).step be) | (replace D:=(D.boxRS false none 0 0 false none 0 0 (ng p1) A5 (zl p1) c5 (ng p2) A6 (zl p2) c6 (ng p3) A7 (zl p3) c7 (ng p4) A8 (zl p4) c8).step be));replace D:=(D.n ib).n ia;clear iq ia ib;have hz:=be.size;(try simp at hz);(try (obtain ⟨q00,q01,q02,q03⟩:=D.lq.b0.a4;obtain ⟨z00,z01,z02,z03⟩:=D.lq.b0.f4));(try (obtain ⟨q10,q11,q12,q13⟩:=D.lq.tl.b0.a4;obtain ⟨z10,z11,z12,z13⟩:=D.lq.tl.b0.f4));(try obtain ⟨na,nb,nc,nd,nl⟩:=D.n0);(try obtain ⟨ne,nf,ng',nh,nm⟩:=D.n1);(try obtain ⟨ni,nj⟩:=D.n01)))
  all_goals
   go_wp2_with fail
   go_meet
   first
   | ((with_reducible refine made1s_a D ?_ ?_) <;> (repeat (first | (with_reducible exact mS) | apply mT)))
   | ((with_reducible refine made1s_b D ?_ ?_) <;> (repeat (first | (with_reducible exact mS) | apply mT)))
   | ((with_reducible refine made1s_b D.swap ?_ ?_) <;> (repeat (first | (with_reducible exact mS) | apply mT)))
 case rest =>
  obtain ⟨gy,A3,c3,B3,d3,rfl,hg,bw,hv1,iq1,iq2⟩:=hcut
  have L9:=(((LL.out.step bw).n iq2).n iq1).b hv1
  have n1:w.heap.size + 2 ≠ gy:=by omega
  have L:=(L9.subx (ns':=[(.slice A3 (zl X) c3,X.natAbs),(.slice B3 (zl Y) d3,Y.natAbs)]) (bs':=[(w.heap.size + 2,53,#[.bool false,.slice none 0 0,.bool false,.slice none 0 0]),(gy,53,#[.bool (ng X),.slice A3 (zl X) c3,.bool (ng Y),.slice B3 (zl Y) d3])]) (by simp) (by simp)).drew
  clear D D0 hmd hz0 hK LL L9 hv1 iq1 iq2 bw hb1 hb2 hb3 hc1 hc2 Q0 Q1 Q2 Q3 Q4 Q5 Q6 Q7
  generalize wc = wd at *
  (try go_wp2_with fail)
  obtain ⟨c00,c01,c02,c03⟩:=L.b0.a4
  obtain ⟨f00,f01,f02,f03⟩:=L.b0.f4
  obtain ⟨c10,c11,c12,c13⟩:=L.tl.b0.a4
  go_region_held3 (fun w' => w'.cell? ⟨gy,0,none⟩ = some (.bool (ng X))∧w'.cell? ⟨gy,1,none⟩ = some (.slice A3 (zl X) c3)∧w'.cell? ⟨gy,2,none⟩ = some (.bool (ng Y))∧w'.cell? ⟨gy,3,none⟩ = some (.slice B3 (zl Y) d3)) (first | (with_reducible exact ⟨L.tl.b0.c40,L.tl.b0.c41,L.tl.b0.c42,L.tl.b0.c43⟩) | (have LP:=L.putS (by omega) (by first | (simp;done) | (simp;omega)) (ng x) A4 (zl x) c4 (ng y) A7 (zl y) c7;unfold put4 at LP;with_reducible exact ⟨LP.tl.b0.c40,LP.tl.b0.c41,LP.tl.b0.c42,LP.tl.b0.c43⟩) | exact ⟨L.tl.b0.c40,L.tl.b0.c41,L.tl.b0.c42,L.tl.b0.c43⟩) (first | (go_at_call 81;(with_reducible refine (H1.out _ _ ?_ ).mono ?_);(· (refine isZ_s (L.getN ?_);(repeat (first | (with_reducible exact mS) | apply mT))));rintro e wh ⟨vh,rfl,iz,be⟩;obtain ⟨A4,c4,rfl,in9⟩:=iz.form;replace L:=(L.step be).n in9;clear be iz in9;(try (obtain ⟨x00,x01,x02,x03⟩:=L.b0.a4;obtain ⟨y00,y01,y02,y03⟩:=L.b0.f4))) | (go_at_call 82;(with_reducible refine (H2.out _ _ ?_ ).mono ?_);(· (refine isZ_s (L.getN ?_);(repeat (first | (with_reducible exact mS) | apply mT))));rintro e wh ⟨vh,rfl,iz,be⟩;obtain ⟨A5,c5,rfl,in9⟩:=iz.form;replace L:=(L.step be).n in9;clear be iz in9;(try (obtain ⟨x00,x01,x02,x03⟩:=L.b0.a4;obtain ⟨y00,y01,y02,y03⟩:=L.b0.f4))) | (go_at_call 81;(with_reducible refine (H3.out _ _ ?_ ).mono ?_);(· (refine isZ_s (L.getN ?_);(repeat (first | (with_reducible exact mS) | apply mT))));rintro e wh ⟨vh,rfl,iz,be⟩;obtain ⟨A6,c6,rfl,in9⟩:=iz.form;replace L:=(L.step be).n in9;clear be iz in9;(try (obtain ⟨x00,x01,x02,x03⟩:=L.b0.a4;obtain ⟨y00,y01,y02,y03⟩:=L.b0.f4))) | (go_at_call 82;(with_reducible refine (H4.out _ _ ?_ ).mono ?_);(· (refine isZ_s (L.getN ?_);(repeat (first | (with_reducible exact mS) | apply mT))));rintro e wh ⟨vh,rfl,iz,be⟩;obtain ⟨A7,c7,rfl,in9⟩:=iz.form;replace L:=(L.step be).n in9;clear be iz in9;(try (obtain ⟨x00,x01,x02,x03⟩:=L.b0.a4;obtain ⟨y00,y01,y02,y03⟩:=L.b0.f4))))
  clear c00 f00 c01 f01 c02 f02 c03 f03 c10 c11 c12 c13
  go_wp2_with fail
  have LP:=L.putS (by omega) (by first | (simp;done) | (simp;omega)) (ng x) A4 (zl x) c4 (ng y) A7 (zl y) c7
  obtain ⟨k0,k1,k2,k3⟩:=LP.b0.a4
  unfold put4 at k0 k1 k2 k3
  exact bodyPost_ret (v:=.agg #[.bool (ng x),.slice A4 (zl x) c4,.bool (ng y),.slice A7 (zl y) c7]) (by simp [results,Tryz.results127,go_sem,k0,k1,k2,k3]) rfl ⟨_,rfl,isS_n (LP.getN (by simp)) (LP.getN (by simp)),LP.below⟩

theorem aenclR_any (a:Int) (d:Nat) (a2:Int) (q:Nat) (k:Int) (vx vy:Value) (w:World) (hx:IsP w vx a d) (hy:IsP w vy a2 q) (la:zl a≤800) (ld:len d≤800) (hd:0 < d) (lb:zl a2≤800) (lq:len q≤800) (hq:0 < q) (hw:workB k = true) (hT:Tab w) :
  Calls Tryz.prog 100 #[vx,vy,.int .i64 k,.func (.func 101) #[] #[],.func (.func 102) #[] #[]] w (RetEn w (Rat.divInt a (d:Int)) (Rat.divInt a2 (q:Int)) k):=by
 obtain ⟨wp,wk1,wk2⟩:=work_perm hw
 obtain ⟨A,c,B,i,rfl,_,_,_⟩:=hx.form
 obtain ⟨A',c',B',i',rfl,_,_,_⟩:=hy.form
 have L0:=((Lq.mk0 w).q hy).q hx
 have y4:=zl_neg a2
 have y1:=zl_cut a d hd k
 have y2:=zl_cut (-a2) q hq k
 rw [← Rat.neg_divInt] at y2
 have f1:=fun v W h (hW:Below w.heap.size w W) => gfloorR_any a d k v W h (by omega) (by omega) hd (by omega) (by omega) (hT.mono hW)
 have f2:=fun v W h (hW:Below w.heap.size w W) => gceilR_any a2 q k v W h (by omega) (by omega) hq (by omega) (by omega) (hT.mono hW)
 obtain ⟨lo,hlo⟩:=nm9 (Rat.divInt a (d:Int))
 obtain ⟨hi,hhi⟩:=nm9 (Rat.divInt a2 (q:Int))
 rw [hlo] at f1 y1 ⊢
 rw [hhi] at f2 y2 ⊢
 have y3:=zl_neg (cutQ (-hi) k)
 have y5:=zl_mk (cutQ lo k) (-k)
 have y6:=zl_mk (-(cutQ (-hi) k)) (-k)
 rw [(g_yes wp (cutQ lo k)).1,(g_yes wp (cutQ lo k)).2.1,(g_yes wp (cutQ lo k)).2.2] at f1
 rw [(g_yes wp (-(cutQ (-hi) k))).1,(g_yes wp (-(cutQ (-hi) k))).2.1,(g_yes wp (-(cutQ (-hi) k))).2.2] at f2
 have hsm:=Hd9 (fun (q1:mkR (cutQ lo k) (-k) = 0) (q2:mkR (-(cutQ (-hi) k)) (-k) = 0) v W h => (show Calls Tryz.prog 62 #[v] W (RetB W (enB lo hi k)) from asmall_any (enM lo k) (enE lo k) (upM hi k) (upE hi k) v W h (by unfold enM;omega) (by unfold upM;omega) (by have:=dv_bound (mk_ok q1);unfold enE;omega) (by have:=dv_bound (mk_ok q2);unfold upE;omega) (mk_ok q1) (mk_ok q2)))
 have HRT:=Hd9 (show RetEn w lo hi k = if mkR (cutQ lo k) (-k) = 0∧mkR (-(cutQ (-hi) k)) (-k) = 0∧enB lo hi k = true then RetIE w (enM lo k) (enE lo k) (upM hi k) (upE hi k) 0 else RetIE w 0 0 0 0 3 from by unfold RetEn;rw [if_pos hw])
 unfold enM enE upM upE at hsm HRT
 have H1:=Hd9 f1
 have H2:=Hd9 f2
 clear f1 f2 hlo hhi y1 y2 y3 y4 y5 y6 wp hx hy la ld hd lb lq hq hw hT wk1 wk2
 generalize mkR (cutQ lo k) (-k) = R1 at *
 generalize mkR (-(cutQ (-hi) k)) (-k) = R2 at *
 generalize mkM (cutQ lo k) (-k) = M at *
 generalize mkE (cutQ lo k) (-k) = E at *
 generalize mkM (-(cutQ (-hi) k)) (-k) = N at *
 generalize mkE (-(cutQ (-hi) k)) (-k) = G at *
 generalize enB lo hi k = b at *
 cases hr1:decide (R1 = 0)
 ·replace hr1:=of_decide_eq_false hr1
  have e1:(R1 != 0) = true:=by simpa using hr1
  have e2:(R1 == 0) = false:=by simpa using hr1
  clear hsm
  go_enter Tryz.func100,Tryz.ntmps100
  go_wp2_with fail
  have L:=(((L0.varQ (w.heap.size) (by simp) (ng a) A B (zl a) c (len d) i).varQ (w.heap.size + 1) (by simp) (ng a2) A' B' (zl a2) c' (len q) i').varI (w.heap.size + 2) (by simp) false none 0 0 0 false none 0 0 0)
  obtain ⟨gr,hgr⟩:=nm9 (w.heap.size + 1 + 1)
  have hgr2:w.heap.size + 2 = gr:=hgr
  rw [hgr2] at L
  rw [hgr]
  have hgw:w.heap.size + 1 < gr:=by omega
  clear hgr hgr2
  obtain ⟨cel20,cel21,cel22⟩:=L.tl.tl.b0.a3
  go_wp2_with fail
  refine (H1.out _ _ (L.getQ (v:=.agg #[.bool (ng a),.slice A (zl a) c,.slice B (len d) i]) (a:=a) (d:=d) (by simp)) L.below).mono ?_
  rintro e w1 ⟨vv,rfl,id,be⟩
  clear cel20 cel21 cel22
  obtain ⟨A8,c8,rfl,_,in9⟩:=id.form
  replace L:=(L.step be).n in9
  clear be id in9
  have hlg8:=L.b0.lt
  replace L:=L.varD w1.heap.size rfl (ng M) A8 (zl M) c8 E
  obtain ⟨cel20,cel21,cel22⟩:=L.tl.tl.b0.a3
  go_wp2_with fail
  obtain ⟨g8,hg⟩:=nm9 (w1.heap.size)
  rw [hg] at L hlg8 ⊢
  clear hg
  refine (H2.out _ _ (L.getQ (v:=.agg #[.bool (ng a2),.slice A' (zl a2) c',.slice B' (len q) i']) (a:=a2) (d:=q) (by simp)) L.below).mono ?_
  rintro e w2 ⟨vv,rfl,id,be⟩
  clear cel20 cel21 cel22
  obtain ⟨A9,c9,rfl,_,in9⟩:=id.form
  replace L:=(L.step be).n in9
  clear be id in9
  have hl9:=L.b0.lt
  replace L:=L.varD w2.heap.size rfl (ng N) A9 (zl N) c9 G
  obtain ⟨cel00,cel01,cel02⟩:=L.b0.a3
  obtain ⟨cel10,cel11,cel12⟩:=L.tl.b0.a3
  replace L:=L.varI (w2.heap.size + 1) (by simp) (ng M) A8 (zl M) c8 E (ng N) A9 (zl N) c9 G
  obtain ⟨cem00,cem01,cem02,cem03,cem04,cem05⟩:=L.b0.a6
  have R:=L.pick [(gr,28,#[.bool false,.slice none 0 0,.int .i64 0,.bool false,.slice none 0 0,.int .i64 0])] (by simp)
  obtain ⟨r0,r1,r2,r3,r4,r5⟩:=R.b0.a6
  obtain ⟨s0,s1,s2,s3,s4,s5⟩:=R.b0.f6
  go_wp2_with fail
  have LP:=R.putI (by omega) (by simp) false none 0 0 0 false none 0 0 0
  have k0':=LP.b0.c60
  have k1':=LP.b0.c61
  have k2':=LP.b0.c62
  have k3':=LP.b0.c63
  have k4':=LP.b0.c64
  have k5':=LP.b0.c65
  unfold put6 at k0' k1' k2' k3' k4' k5'
  exact bodyPost_ret (v:=.tuple #[.agg #[.bool false,.slice none 0 0,.int .i64 0,.bool false,.slice none 0 0,.int .i64 0],.int .i64 3]) (by simp [results,Tryz.results100,go_sem,k0',k1',k2',k3',k4',k5']) rfl (by rw [HRT.out,if_neg (fun h => hr1 h.1)];exact ⟨_,rfl,isI_zero _,LP.below⟩)
 ·obtain rfl:=of_decide_eq_true hr1
  have HR1:=Hd9 (rfl:(0:Int) = 0)
  clear hr1
  cases hr2:decide (R2 = 0)
  ·replace hr2:=of_decide_eq_false hr2
   have e1:(R2 != 0) = true:=by simpa using hr2
   have e2:(R2 == 0) = false:=by simpa using hr2
   clear hsm
   go_enter Tryz.func100,Tryz.ntmps100
   go_wp2_with fail
   have L:=(((L0.varQ (w.heap.size) (by simp) (ng a) A B (zl a) c (len d) i).varQ (w.heap.size + 1) (by simp) (ng a2) A' B' (zl a2) c' (len q) i').varI (w.heap.size + 2) (by simp) false none 0 0 0 false none 0 0 0)
   obtain ⟨gr,hgr⟩:=nm9 (w.heap.size + 1 + 1)
   have hgr2:w.heap.size + 2 = gr:=hgr
   rw [hgr2] at L
   rw [hgr]
   have hgw:w.heap.size + 1 < gr:=by omega
   clear hgr hgr2
   obtain ⟨cel20,cel21,cel22⟩:=L.tl.tl.b0.a3
   go_wp2_with fail
   refine (H1.out _ _ (L.getQ (v:=.agg #[.bool (ng a),.slice A (zl a) c,.slice B (len d) i]) (a:=a) (d:=d) (by simp)) L.below).mono ?_
   rintro e w1 ⟨vv,rfl,id,be⟩
   clear cel20 cel21 cel22
   obtain ⟨A8,c8,rfl,_,in9⟩:=id.form
   replace L:=(L.step be).n in9
   clear be id in9
   have hlg8:=L.b0.lt
   replace L:=L.varD w1.heap.size rfl (ng M) A8 (zl M) c8 E
   obtain ⟨cel20,cel21,cel22⟩:=L.tl.tl.b0.a3
   go_wp2_with fail
   obtain ⟨g8,hg⟩:=nm9 (w1.heap.size)
   rw [hg] at L hlg8 ⊢
   clear hg
   refine (H2.out _ _ (L.getQ (v:=.agg #[.bool (ng a2),.slice A' (zl a2) c',.slice B' (len q) i']) (a:=a2) (d:=q) (by simp)) L.below).mono ?_
   rintro e w2 ⟨vv,rfl,id,be⟩
   clear cel20 cel21 cel22
   obtain ⟨A9,c9,rfl,_,in9⟩:=id.form
   replace L:=(L.step be).n in9
   clear be id in9
   have hl9:=L.b0.lt
   replace L:=L.varD w2.heap.size rfl (ng N) A9 (zl N) c9 G
   obtain ⟨cel00,cel01,cel02⟩:=L.b0.a3
   obtain ⟨cel10,cel11,cel12⟩:=L.tl.b0.a3
   replace L:=L.varI (w2.heap.size + 1) (by simp) (ng M) A8 (zl M) c8 E (ng N) A9 (zl N) c9 G
   obtain ⟨cem00,cem01,cem02,cem03,cem04,cem05⟩:=L.b0.a6
   have R:=L.pick [(gr,28,#[.bool false,.slice none 0 0,.int .i64 0,.bool false,.slice none 0 0,.int .i64 0])] (by simp)
   obtain ⟨r0,r1,r2,r3,r4,r5⟩:=R.b0.a6
   obtain ⟨s0,s1,s2,s3,s4,s5⟩:=R.b0.f6
   go_wp2_with fail
   have LP:=R.putI (by omega) (by simp) false none 0 0 0 false none 0 0 0
   have k0':=LP.b0.c60
   have k1':=LP.b0.c61
   have k2':=LP.b0.c62
   have k3':=LP.b0.c63
   have k4':=LP.b0.c64
   have k5':=LP.b0.c65
   unfold put6 at k0' k1' k2' k3' k4' k5'
   exact bodyPost_ret (v:=.tuple #[.agg #[.bool false,.slice none 0 0,.int .i64 0,.bool false,.slice none 0 0,.int .i64 0],.int .i64 3]) (by simp [results,Tryz.results100,go_sem,k0',k1',k2',k3',k4',k5']) rfl (by rw [HRT.out,if_neg (fun h => hr2 h.2.1)];exact ⟨_,rfl,isI_zero _,LP.below⟩)
  ·obtain rfl:=of_decide_eq_true hr2
   have HR2:=Hd9 (rfl:(0:Int) = 0)
   have HS:=Hd9 (hsm.out rfl rfl)
   clear hr2 hsm
   go_enter Tryz.func100,Tryz.ntmps100
   go_wp2_with fail
   have L:=(((L0.varQ (w.heap.size) (by simp) (ng a) A B (zl a) c (len d) i).varQ (w.heap.size + 1) (by simp) (ng a2) A' B' (zl a2) c' (len q) i').varI (w.heap.size + 2) (by simp) false none 0 0 0 false none 0 0 0)
   obtain ⟨gr,hgr⟩:=nm9 (w.heap.size + 1 + 1)
   have hgr2:w.heap.size + 2 = gr:=hgr
   rw [hgr2] at L
   rw [hgr]
   have hgw:w.heap.size + 1 < gr:=by omega
   clear hgr hgr2
   obtain ⟨cel20,cel21,cel22⟩:=L.tl.tl.b0.a3
   go_wp2_with fail
   refine (H1.out _ _ (L.getQ (v:=.agg #[.bool (ng a),.slice A (zl a) c,.slice B (len d) i]) (a:=a) (d:=d) (by simp)) L.below).mono ?_
   rintro e w1 ⟨vv,rfl,id,be⟩
   clear cel20 cel21 cel22
   obtain ⟨A8,c8,rfl,_,in9⟩:=id.form
   replace L:=(L.step be).n in9
   clear be id in9
   have hlg8:=L.b0.lt
   replace L:=L.varD w1.heap.size rfl (ng M) A8 (zl M) c8 E
   obtain ⟨cel20,cel21,cel22⟩:=L.tl.tl.b0.a3
   go_wp2_with fail
   obtain ⟨g8,hg⟩:=nm9 (w1.heap.size)
   rw [hg] at L hlg8 ⊢
   clear hg
   refine (H2.out _ _ (L.getQ (v:=.agg #[.bool (ng a2),.slice A' (zl a2) c',.slice B' (len q) i']) (a:=a2) (d:=q) (by simp)) L.below).mono ?_
   rintro e w2 ⟨vv,rfl,id,be⟩
   clear cel20 cel21 cel22
   obtain ⟨A9,c9,rfl,_,in9⟩:=id.form
   replace L:=(L.step be).n in9
   clear be id in9
   have hl9:=L.b0.lt
   replace L:=L.varD w2.heap.size rfl (ng N) A9 (zl N) c9 G
   obtain ⟨cel00,cel01,cel02⟩:=L.b0.a3
   obtain ⟨cel10,cel11,cel12⟩:=L.tl.b0.a3
   replace L:=L.varI (w2.heap.size + 1) (by simp) (ng M) A8 (zl M) c8 E (ng N) A9 (zl N) c9 G
   obtain ⟨cem00,cem01,cem02,cem03,cem04,cem05⟩:=L.b0.a6
   go_wp2_with fail
   refine (HS.out _ _ (isI_n (s:=.slice A8 (zl M) c8) (t:=.slice A9 (zl N) c9) (L.getN (by simp)) (L.getN (by simp)))).mono ?_
   rintro e w3 ⟨rfl,be⟩
   clear cem00 cem01 cem02 cem03 cem04 cem05 cel00 cel01 cel02 cel10 cel11 cel12
   replace L:=L.step be
   clear be
   cases b
   ·skip
    obtain ⟨cel00,cel01,cel02,cel03,cel04,cel05⟩:=L.b0.a6
    have R:=L.pick [(gr,28,#[.bool false,.slice none 0 0,.int .i64 0,.bool false,.slice none 0 0,.int .i64 0])] (by simp)
    obtain ⟨r0,r1,r2,r3,r4,r5⟩:=R.b0.a6
    obtain ⟨s0,s1,s2,s3,s4,s5⟩:=R.b0.f6
    go_wp2_with fail
    have LP:=R.putI (by omega) (by simp) false none 0 0 0 false none 0 0 0
    have k0':=LP.b0.c60
    have k1':=LP.b0.c61
    have k2':=LP.b0.c62
    have k3':=LP.b0.c63
    have k4':=LP.b0.c64
    have k5':=LP.b0.c65
    unfold put6 at k0' k1' k2' k3' k4' k5'
    exact bodyPost_ret (v:=.tuple #[.agg #[.bool false,.slice none 0 0,.int .i64 0,.bool false,.slice none 0 0,.int .i64 0],.int .i64 3]) (by simp [results,Tryz.results100,go_sem,k0',k1',k2',k3',k4',k5']) rfl (by rw [HRT.out,if_neg (fun h => (by cases h.2.2))];exact ⟨_,rfl,isI_zero _,LP.below⟩)
   ·skip
    obtain ⟨cel00,cel01,cel02,cel03,cel04,cel05⟩:=L.b0.a6
    have R:=L.pick [(gr,28,#[.bool false,.slice none 0 0,.int .i64 0,.bool false,.slice none 0 0,.int .i64 0])] (by simp)
    obtain ⟨r0,r1,r2,r3,r4,r5⟩:=R.b0.a6
    obtain ⟨s0,s1,s2,s3,s4,s5⟩:=R.b0.f6
    go_wp2_with fail
    have LP:=R.putI (by omega) (by simp) (ng M) A8 (zl M) c8 E (ng N) A9 (zl N) c9 G
    have k0':=LP.b0.c60
    have k1':=LP.b0.c61
    have k2':=LP.b0.c62
    have k3':=LP.b0.c63
    have k4':=LP.b0.c64
    have k5':=LP.b0.c65
    unfold put6 at k0' k1' k2' k3' k4' k5'
    exact bodyPost_ret (v:=.tuple #[.agg #[.bool (ng M),.slice A8 (zl M) c8,.int .i64 E,.bool (ng N),.slice A9 (zl N) c9,.int .i64 G],.int .i64 0]) (by simp [results,Tryz.results100,go_sem,k0',k1',k2',k3',k4',k5']) rfl (by rw [HRT.out,if_pos ⟨HR1.out,HR2.out,by first | trivial | rfl⟩];exact ⟨_,rfl,isI_n (LP.getN (by simp)) (LP.getN (by simp)),LP.below⟩)
def RowI (w:World) (v:Value) (l:List (Int × Int × Int × Int)):Prop:=∃ g c,v = .slice (some ⟨g,0,none⟩) l.length c∧g < w.heap.size∧∀ (j:Nat) (p:Int × Int × Int × Int),l[j]? = some p → ∃ A c B d,w.cell? ⟨g,6 * j,none⟩ = some (.bool (ng p.1))∧w.cell? ⟨g,6 * j + 1,none⟩ = some (.slice A (zl p.1) c)∧w.cell? ⟨g,6 * j + 2,none⟩ = some (.int .i64 p.2.1)∧w.cell? ⟨g,6 * j + 3,none⟩ = some (.bool (ng p.2.2.1))∧w.cell? ⟨g,6 * j + 4,none⟩ = some (.slice B (zl p.2.2.1) d)∧w.cell? ⟨g,6 * j + 5,none⟩ = some (.int .i64 p.2.2.2)∧IsN w (.slice A (zl p.1) c) p.1.natAbs∧IsN w (.slice B (zl p.2.2.1) d) p.2.2.1.natAbs
theorem RowI.at {w w':World} {g c n:Nat} {l:List (Int × Int × Int × Int)} (h:RowI w (.slice (some ⟨g,0,none⟩) n c) l) (hb:Below w.heap.size w w') {j:Nat} {p:Int × Int × Int × Int} (hp:l[j]? = some p):∃ A c B d,w'.cell? ⟨g,6 * j,none⟩ = some (.bool (ng p.1))∧w'.cell? ⟨g,6 * j + 1,none⟩ = some (.slice A (zl p.1) c)∧w'.cell? ⟨g,6 * j + 2,none⟩ = some (.int .i64 p.2.1)∧w'.cell? ⟨g,6 * j + 3,none⟩ = some (.bool (ng p.2.2.1))∧w'.cell? ⟨g,6 * j + 4,none⟩ = some (.slice B (zl p.2.2.1) d)∧w'.cell? ⟨g,6 * j + 5,none⟩ = some (.int .i64 p.2.2.2)∧IsN w' (.slice A (zl p.1) c) p.1.natAbs∧IsN w' (.slice B (zl p.2.2.1) d) p.2.2.1.natAbs:=by
 obtain ⟨g',c',r,hg,h⟩:=h
 simp only [Value.slice.injEq,Option.some.injEq,Addr.mk.injEq,and_true] at r
 obtain ⟨rfl,_,_⟩:=r
 obtain ⟨A,c,B,d,h0,h1,h2,h3,h4,h5,h6,h7⟩:=h j p hp
 exact ⟨A,c,B,d,(hb.cell (p:=⟨g,6 * j,none⟩) hg).trans h0,(hb.cell (p:=⟨g,6 * j + 1,none⟩) hg).trans h1,(hb.cell (p:=⟨g,6 * j + 2,none⟩) hg).trans h2,(hb.cell (p:=⟨g,6 * j + 3,none⟩) hg).trans h3,(hb.cell (p:=⟨g,6 * j + 4,none⟩) hg).trans h4,(hb.cell (p:=⟨g,6 * j + 5,none⟩) hg).trans h5,h6.mono hb,h7.mono hb⟩
def qtA (m e n f:Int):Int:=if m = 0 then 0 else (Rat.divInt m n).num * 2 ^ (e - f).toNat
def qtD (m e n f:Int):Nat:=if m = 0 then 1 else (Rat.divInt m n).den * 2 ^ (f - e).toNat
theorem qt_pos (m e n f:Int):0 < qtD m e n f:=by
 unfold qtD
 split
 ·omega
 ·exact Nat.mul_pos (Rat.den_pos _) (Nat.pow_pos (by omega))
theorem dq_pow (m e:Int):dq m e = (m:Rat) * dq 1 e:=dq_scale m e
theorem dq_one_sub (e f:Int):dq 1 (e - f) * dq 1 f = dq 1 e:=by
 rw [← dq_mul,Int.mul_one]
 congr 1
 omega
theorem divInt_mul_r (a:Int) (d:Nat) (x y:Nat) (hx:0 < x) (hy:0 < y) (hd:0 < d):Rat.divInt (a * (x:Int)) ((d * y:Nat):Int) = Rat.divInt a (d:Int) * Rat.divInt (x:Int) (y:Int):=by
 rw [Rat.divInt_mul_divInt]
 congr 1
theorem qt_val {m e n f:Int} (hn:n ≠ 0):Rat.divInt (qtA m e n f) (qtD m e n f:Int) = dq m e / dq n f:=by
 have hn0:(n:Rat) ≠ 0:=fun h => hn (Rat.intCast_eq_zero_iff.1 h)
 have hp:=dq_pos f
 have hpn:dq 1 f ≠ 0:=fun h => by rw [h] at hp;exact Rat.not_le.2 hp Rat.le_refl
 by_cases h0:m = 0
 ·unfold qtA qtD
  rw [if_pos h0,if_pos h0,h0,dq_pow 0 e,Rat.intCast_zero,Rat.zero_mul,Rat.div_def,Rat.zero_mul]
  rfl
 ·unfold qtA qtD
  rw [if_neg h0,if_neg h0]
  have e1:(2:Int) ^ (e - f).toNat = ((2 ^ (e - f).toNat:Nat):Int):=(cast2 _).symm
  rw [e1,divInt_mul_r _ _ _ _ (Nat.pow_pos (by omega)) (Nat.pow_pos (by omega)) (Rat.den_pos _),Rat.num_divInt_den]
  have e2:Rat.divInt ((2 ^ (e - f).toNat:Nat):Int) ((2 ^ (f - e).toNat:Nat):Int) = dq 1 (e - f):=by
   unfold dq
   rw [Int.one_mul,cast2,show -(e - f) = f - e from by omega]
  rw [e2,dq_pow m e,dq_pow n f,← dq_one_sub e f,Rat.div_def,Rat.inv_mul_rev]
  have e3:Rat.divInt m n = (m:Rat) * (n:Rat)⁻¹:=by rw [← Rat.div_def];exact Rat.divInt_eq_div m n
  rw [e3]
  have e4:dq 1 f * (dq 1 f)⁻¹ = 1:=Rat.mul_inv_cancel _ hpn
  rw [show (m:Rat) * (dq 1 (e - f) * dq 1 f) * ((dq 1 f)⁻¹ * (n:Rat)⁻¹) = (m:Rat) * (dq 1 (e - f) * (dq 1 f * (dq 1 f)⁻¹) * (n:Rat)⁻¹) from by simp only [Rat.mul_assoc],e4,Rat.mul_one,Rat.mul_assoc,Rat.mul_comm (n:Rat)⁻¹]
theorem qt_low {m n:Int} (hn:n ≠ 0):zl (Rat.divInt m n).num≤zl m∧len (Rat.divInt m n).den≤zl n:=by
 obtain ⟨e1,e2⟩:=divInt_pair m n hn
 constructor
 ·unfold zl
  rw [e1]
  exact len_mono (by rw [sg_abs];exact Nat.div_le_self _ _)
 ·unfold zl
  rw [e2]
  exact len_mono (Nat.div_le_self _ _)
theorem qt_small {m e n f:Int} (hn:n ≠ 0) (lm:zl m≤140) (ln:zl n≤140) (he:-4500≤e∧e≤4500) (hf:-4500≤f∧f≤4500):zl (qtA m e n f)≤800∧len (qtD m e n f)≤800:=by
 obtain ⟨h1,h2⟩:=qt_low (m:=m) hn
 unfold qtA qtD
 constructor
 ·split
  ·rw [zl_zero];omega
  ·have:=zl_two (Rat.divInt m n).num (e - f).toNat
   omega
 ·split
  ·have:=len_le1 (show 1 < 4294967296 by omega)
   omega
  ·have h3:=len_mul (Rat.divInt m n).den (2 ^ (f - e).toNat)
   have h4:=len_two (f - e).toNat
   omega

theorem anum_any (z e:Int) (vx:Value) (w:World) (hx:IsZ w vx z) (lz:zl z≤1000) (he:-20000≤e∧e≤20000) :
  Calls Tryz.prog 164 #[vx,.int .i64 e] w (RetZ w (z * 2 ^ e.toNat)):=by
 obtain ⟨A,c,rfl,_⟩:=hx.form
 have L0:=(Lq.mk0 w).z hx
 have HR:=Hd9 (fun v W h => drat_any z e v W h (by omega) (by omega))
 have hfd:∀ (x:Bool) (E F:Option Addr) (n1 n2 n3 n4:Nat) (W:World),(Instr.field 65 (.agg #[.bool x,.slice E n1 n2,.slice F n3 n4]) 0).run Tryz.prog W = .ok (.agg #[.bool x,.slice E n1 n2]) W:=fun _ _ _ _ _ _ _ _ => by kernel_rfl
 generalize z * 2 ^ e.toNat = a at *
 generalize 2 ^ (-e).toNat = d at *
 clear hx lz he
 go_enter Tryz.func164,Tryz.ntmps164
 go_wp2_with fail
 have L:=((L0.varZ (w.heap.size) (by simp) (ng z) A (zl z) c).varZ (w.heap.size + 1) (by simp) false none 0 0)
 obtain ⟨c00,c01⟩:=L.b0.a2
 obtain ⟨f00,f01⟩:=L.b0.f2
 obtain ⟨c10,c11⟩:=L.tl.b0.a2
 (try go_wp2_with fail)
 refine (HR.out _ _ (isD_z (L.getZ (v:=.agg #[.bool (ng z),.slice A (zl z) c]) (by simp)))).mono ?_
 rintro e w1 ⟨vq,rfl,iq,be⟩
 clear c00 f00 c01 f01 c10 c11
 obtain ⟨A9,c9,B9,k9,rfl,iz9,_,_⟩:=iq.form
 replace L:=(L.step be).z iz9
 clear be iq iz9
 obtain ⟨c00,c01⟩:=L.b0.a2
 obtain ⟨f00,f01⟩:=L.b0.f2
 obtain ⟨c10,c11⟩:=L.tl.b0.a2
 (try go_wp2_with fail)
 have LP:=L.putZ (by omega) (by first | (simp;done) | (simp;omega)) (ng a) A9 (zl a) c9
 obtain ⟨k0,k1⟩:=LP.b0.a2
 unfold put2 at k0 k1
 exact bodyPost_ret (v:=.agg #[.bool (ng a),.slice A9 (zl a) c9]) (by simp [results,Tryz.results164,go_sem,k0,k1]) rfl ⟨_,rfl,LP.getZ (by simp),LP.below⟩
theorem absign_any (m e n f n2 f2:Int) (vx vy vz:Value) (w:World) (hx:IsD w vx m e) (hy:IsD w vy n f) (hz:IsD w vz n2 f2) (lm:zl m≤1000) :
  Calls Tryz.prog 99 #[vx,vy,vz] w (RetD8 w (if m < 0 then n else n2) (if m < 0 then f else f2)):=by
 obtain ⟨A,c,rfl,_,hn1⟩:=hx.form
 obtain ⟨B,d,rfl,_,hn2⟩:=hy.form
 obtain ⟨C,h,rfl,_,hn3⟩:=hz.form
 have L0:=(((Lq.mk0 w).n hn3).n hn2).n hn1
 have hs:=fun v W h => dsign_any m e v W h (by omega)
 have hc:cmpI m 0 < 0 ↔ m < 0:=by unfold cmpI;(repeat' split) <;> omega
 obtain ⟨x,hx9⟩:=nm9 (cmpI m 0)
 rw [hx9] at hs hc
 have HS:=Hd9 hs
 clear hs hx9 hx hy hz hn1 hn2 hn3 lm
 by_cases q:m < 0
 ·rw [if_pos q,if_pos q]
  have b1:decide (x < 0) = true:=decide_eq_true (by omega)
  clear hc q
  go_enter Tryz.func99,Tryz.ntmps99
  go_wp2_with fail
  have L:=((((L0.varD (w.heap.size) (by simp) (ng m) A (zl m) c e).varD (w.heap.size + 1) (by simp) (ng n) B (zl n) d f).varD (w.heap.size + 2) (by simp) (ng n2) C (zl n2) h f2).varD (w.heap.size + 3) (by simp) false none 0 0 0)
  obtain ⟨gr,hgr⟩:=nm9 (w.heap.size + 1 + 1 + 1)
  have hgr2:w.heap.size + 3 = gr:=hgr
  obtain ⟨gz,hgz⟩:=nm9 (w.heap.size + 1 + 1)
  have hgz2:w.heap.size + 2 = gz:=hgz
  rw [hgr2,hgz2] at L
  rw [hgr,hgz]
  have hgr3:w.heap.size + 2 < gr:=by omega
  have hgz3:w.heap.size + 1 < gz:=by omega
  have hgr4:gz < gr:=by omega
  clear hgr hgr2 hgz hgz2
  obtain ⟨c00,c01,c02⟩:=L.b0.a3
  obtain ⟨f00,f01,f02⟩:=L.b0.f3
  obtain ⟨c10,c11,c12⟩:=L.tl.b0.a3
  obtain ⟨c20,c21,c22⟩:=L.tl.tl.b0.a3
  obtain ⟨c30,c31,c32⟩:=L.tl.tl.tl.b0.a3
  (try go_wp2_with fail)
  refine (HS.out _ _ (isD_n (m:=m) (e:=e) (s:=.slice A (zl m) c) (L.getN (by simp)))).mono ?_
  rintro e w1 ⟨rfl,be⟩
  clear c00 f00 c01 f01 c02 f02 c10 c11 c12 c20 c21 c22 c30 c31 c32
  replace L:=L.step be
  clear be
  obtain ⟨c00,c01,c02⟩:=L.b0.a3
  obtain ⟨f00,f01,f02⟩:=L.b0.f3
  obtain ⟨c10,c11,c12⟩:=L.tl.b0.a3
  obtain ⟨c20,c21,c22⟩:=L.tl.tl.b0.a3
  obtain ⟨c30,c31,c32⟩:=L.tl.tl.tl.b0.a3
  (try go_wp2_with fail)
  have LP:=L.putD (by omega) (by first | (simp;done) | (simp;omega)) (ng n) B (zl n) d (f)
  obtain ⟨k0,k1,k2⟩:=LP.b0.a3
  unfold put3 at k0 k1 k2
  exact bodyPost_ret (v:=.agg #[.bool (ng n),.slice B (zl n) d,.int .i64 (f)]) (by simp [results,Tryz.results99,go_sem,k0,k1,k2]) rfl ⟨_,rfl,isD_n (LP.getN (by simp)),LP.below⟩
 ·rw [if_neg q,if_neg q]
  have b1:decide (x < 0) = false:=decide_eq_false (by omega)
  clear hc q
  go_enter Tryz.func99,Tryz.ntmps99
  go_wp2_with fail
  have L:=((((L0.varD (w.heap.size) (by simp) (ng m) A (zl m) c e).varD (w.heap.size + 1) (by simp) (ng n) B (zl n) d f).varD (w.heap.size + 2) (by simp) (ng n2) C (zl n2) h f2).varD (w.heap.size + 3) (by simp) false none 0 0 0)
  obtain ⟨gr,hgr⟩:=nm9 (w.heap.size + 1 + 1 + 1)
  have hgr2:w.heap.size + 3 = gr:=hgr
  obtain ⟨gz,hgz⟩:=nm9 (w.heap.size + 1 + 1)
  have hgz2:w.heap.size + 2 = gz:=hgz
  rw [hgr2,hgz2] at L
  rw [hgr,hgz]
  have hgr3:w.heap.size + 2 < gr:=by omega
  have hgz3:w.heap.size + 1 < gz:=by omega
  have hgr4:gz < gr:=by omega
  clear hgr hgr2 hgz hgz2
  obtain ⟨c00,c01,c02⟩:=L.b0.a3
  obtain ⟨f00,f01,f02⟩:=L.b0.f3
  obtain ⟨c10,c11,c12⟩:=L.tl.b0.a3
  obtain ⟨c20,c21,c22⟩:=L.tl.tl.b0.a3
  obtain ⟨c30,c31,c32⟩:=L.tl.tl.tl.b0.a3
  (try go_wp2_with fail)
  refine (HS.out _ _ (isD_n (m:=m) (e:=e) (s:=.slice A (zl m) c) (L.getN (by simp)))).mono ?_
  rintro e w1 ⟨rfl,be⟩
  clear c00 f00 c01 f01 c02 f02 c10 c11 c12 c20 c21 c22 c30 c31 c32
  replace L:=L.step be
  clear be
  obtain ⟨c00,c01,c02⟩:=L.b0.a3
  obtain ⟨f00,f01,f02⟩:=L.b0.f3
  obtain ⟨c10,c11,c12⟩:=L.tl.b0.a3
  obtain ⟨c20,c21,c22⟩:=L.tl.tl.b0.a3
  obtain ⟨c30,c31,c32⟩:=L.tl.tl.tl.b0.a3
  (try go_wp2_with fail)
  have LP:=L.putD (by omega) (by first | (simp;done) | (simp;omega)) (ng n2) C (zl n2) h (f2)
  obtain ⟨k0,k1,k2⟩:=LP.b0.a3
  unfold put3 at k0 k1 k2
  exact bodyPost_ret (v:=.agg #[.bool (ng n2),.slice C (zl n2) h,.int .i64 (f2)]) (by simp [results,Tryz.results99,go_sem,k0,k1,k2]) rfl ⟨_,rfl,isD_n (LP.getN (by simp)),LP.below⟩
theorem aquot_any (m e n f:Int) (vx vy:Value) (w:World) (hx:IsD w vx m e) (hy:IsD w vy n f) (lm:zl m≤140) (ln:zl n≤140) (he:-4500≤e∧e≤4500) (hf:-4500≤f∧f≤4500) (hn0:n ≠ 0) :
  Calls Tryz.prog 98 #[vx,vy] w (RetP w (qtA m e n f) (qtD m e n f)):=by
 obtain ⟨A,c,rfl,hz1,hn1⟩:=hx.form
 obtain ⟨B,d,rfl,hz2,hn2⟩:=hy.form
 have L0:=((((Lq.mk0 w).z hz2).z hz1).n hn2).n hn1
 have hs:=fun v W h => dsign_any m e v W h (by omega)
 have hc:cmpI m 0 = 0 ↔ m = 0:=by unfold cmpI;(repeat' split) <;> omega
 obtain ⟨x,hx9⟩:=nm9 (cmpI m 0)
 rw [hx9] at hs hc
 have HS:=Hd9 hs
 clear hs hx9
 unfold qtA qtD
 by_cases q:m = 0
 ·rw [if_pos q,if_pos q]
  have hx0:x = 0:=hc.2 q
  have b1:(x == 0) = true:=by rw [hx0];rfl
  have ho:=fun W => pof_any 0 W (by omega) (by omega)
  have HO:=Hd9 (fun W => (show Calls Tryz.prog 162 #[.int .i64 0] W (RetP W 0 1) from ho W))
  clear ho hc q hx hy hz1 hz2 hn1 hn2 lm ln he hf hn0 hx0
  go_enter Tryz.func98,Tryz.ntmps98
  go_wp2_with fail
  have L:=(((L0.varD (w.heap.size) (by simp) (ng m) A (zl m) c e).varD (w.heap.size + 1) (by simp) (ng n) B (zl n) d f).varQ (w.heap.size + 2) (by simp) false none none 0 0 0 0)
  obtain ⟨gr,hgr⟩:=nm9 (w.heap.size + 1 + 1)
  have hgr2:w.heap.size + 2 = gr:=hgr
  rw [hgr2] at L
  rw [hgr]
  have hgr3:w.heap.size + 1 < gr:=by omega
  clear hgr hgr2
  obtain ⟨c00,c01,c02⟩:=L.b0.a3
  obtain ⟨f00,f01,f02⟩:=L.b0.f3
  obtain ⟨c10,c11,c12⟩:=L.tl.b0.a3
  obtain ⟨c20,c21,c22⟩:=L.tl.tl.b0.a3
  (try go_wp2_with fail)
  refine (HS.out _ _ (isD_n (m:=m) (e:=e) (s:=.slice A (zl m) c) (L.getN (by simp)))).mono ?_
  rintro e w1 ⟨rfl,be⟩
  clear c00 f00 c01 f01 c02 f02 c10 c11 c12 c20 c21 c22
  replace L:=L.step be
  clear be
  obtain ⟨c00,c01,c02⟩:=L.b0.a3
  obtain ⟨f00,f01,f02⟩:=L.b0.f3
  obtain ⟨c10,c11,c12⟩:=L.tl.b0.a3
  obtain ⟨c20,c21,c22⟩:=L.tl.tl.b0.a3
  (try go_wp2_with fail)
  refine (HO.out _).mono ?_
  rintro e w2 ⟨vq,rfl,iq,be⟩
  clear c00 f00 c01 f01 c02 f02 c10 c11 c12 c20 c21 c22
  obtain ⟨A9,c9,B9,k9,rfl,_,_,_⟩:=iq.form
  replace L:=(L.step be).q iq
  clear be iq
  obtain ⟨c00,c01,c02⟩:=L.b0.a3
  obtain ⟨f00,f01,f02⟩:=L.b0.f3
  obtain ⟨c10,c11,c12⟩:=L.tl.b0.a3
  obtain ⟨c20,c21,c22⟩:=L.tl.tl.b0.a3
  (try go_wp2_with fail)
  have LP:=L.putQ (by omega) (by first | (simp;done) | (simp;omega)) (ng (0)) A9 B9 (zl (0)) c9 (len (1)) k9
  obtain ⟨k0,k1,k2⟩:=LP.b0.a3
  unfold put3 at k0 k1 k2
  exact bodyPost_ret (v:=.agg #[.bool (ng (0)),.slice A9 (zl (0)) c9,.slice B9 (len (1)) k9]) (by simp [results,Tryz.results98,go_sem,k0,k1,k2]) rfl ⟨_,rfl,LP.getQ (by simp),LP.below⟩
 ·rw [if_neg q,if_neg q]
  have b1:(x == 0) = false:=by simpa using (fun h => q (hc.1 h))
  obtain ⟨z1,z2⟩:=qt_low (m:=m) hn0
  have hm:=fun v u W h1 h2 => pmake_any m n v u W h1 h2 (by omega) (by omega) hn0
  obtain ⟨p,hp⟩:=nm9 ((Rat.divInt m n).num)
  obtain ⟨r,hr⟩:=nm9 ((Rat.divInt m n).den)
  rw [hp] at hm z1 ⊢
  rw [hr] at hm z2 ⊢
  obtain ⟨s,hs⟩:=nm9 (e - f)
  have hs2:f - e = -s:=by omega
  rw [hs,hs2]
  have w1:IntKind.i64.wrap (e - f) = s:=by rw [hs,IntKind.wrap_i64];omega
  have w2:IntKind.i64.wrap (-s) = -s:=by rw [IntKind.wrap_i64];omega
  have zr:zl ((r:Nat):Int)≤140:=by show len r≤140;omega
  have n1:=fun v W h => anum_any p s v W h (by omega) (by omega)
  have n2:=fun v W h => anum_any ((r:Nat):Int) (-s) v W h (by omega) (by omega)
  have hc2:((r:Nat):Int) * 2 ^ (-s).toNat = ((r * 2 ^ (-s).toNat:Nat):Int):=by rw [Int.natCast_mul,cast2]
  rw [hc2] at n2
  obtain ⟨a9,ha9⟩:=nm9 (p * 2 ^ s.toNat)
  obtain ⟨d9,hd9⟩:=nm9 (r * 2 ^ (-s).toNat)
  rw [ha9] at n1 ⊢
  rw [hd9] at n2 ⊢
  have HM:=Hd9 hm
  have N1:=Hd9 n1
  have N2:=Hd9 n2
  have hfd:∀ (x:Bool) (E:Option Addr) (n1 n2:Nat) (W:World),(Instr.field 24 (.agg #[.bool x,.slice E n1 n2]) 1).run Tryz.prog W = .ok (.slice E n1 n2) W:=fun _ _ _ _ _ => by kernel_rfl
  clear hm n1 n2 hp hr hs hs2 z1 z2 zr hc2 ha9 hd9 hc q hx hy hz1 hz2 hn1 hn2 lm ln he hf hn0
  go_enter Tryz.func98,Tryz.ntmps98
  go_wp2_with fail
  have L:=(((L0.varD (w.heap.size) (by simp) (ng m) A (zl m) c e).varD (w.heap.size + 1) (by simp) (ng n) B (zl n) d f).varQ (w.heap.size + 2) (by simp) false none none 0 0 0 0)
  obtain ⟨gr,hgr⟩:=nm9 (w.heap.size + 1 + 1)
  have hgr2:w.heap.size + 2 = gr:=hgr
  rw [hgr2] at L
  rw [hgr]
  have hgr3:w.heap.size + 1 < gr:=by omega
  clear hgr hgr2
  obtain ⟨c00,c01,c02⟩:=L.b0.a3
  obtain ⟨f00,f01,f02⟩:=L.b0.f3
  obtain ⟨c10,c11,c12⟩:=L.tl.b0.a3
  obtain ⟨c20,c21,c22⟩:=L.tl.tl.b0.a3
  (try go_wp2_with fail)
  refine (HS.out _ _ (isD_n (m:=m) (e:=e) (s:=.slice A (zl m) c) (L.getN (by simp)))).mono ?_
  rintro e w1 ⟨rfl,be⟩
  clear c00 f00 c01 f01 c02 f02 c10 c11 c12 c20 c21 c22
  replace L:=L.step be
  clear be
  obtain ⟨c00,c01,c02⟩:=L.b0.a3
  obtain ⟨f00,f01,f02⟩:=L.b0.f3
  obtain ⟨c10,c11,c12⟩:=L.tl.b0.a3
  obtain ⟨c20,c21,c22⟩:=L.tl.tl.b0.a3
  (try go_wp2_with fail)
  refine (HM.out _ _ _ (L.getZ (v:=.agg #[.bool (ng m),.slice A (zl m) c]) (by simp)) (L.getZ (v:=.agg #[.bool (ng n),.slice B (zl n) d]) (by simp))).mono ?_
  rintro e w2 ⟨vq,rfl,iq,be⟩
  clear c00 f00 c01 f01 c02 f02 c10 c11 c12 c20 c21 c22
  obtain ⟨A8,c8,B8,k8,rfl,iz8,_,in8⟩:=iq.form
  replace L:=((L.step be).z (isZ_nat in8)).z iz8
  clear be iq iz8 in8
  have hl8:=L.b0.lt
  have g8n:gr ≠ w2.heap.size:=by omega
  replace L:=L.varQ w2.heap.size rfl (ng p) A8 B8 (zl p) c8 (len r) k8
  obtain ⟨c00,c01,c02⟩:=L.b0.a3
  obtain ⟨c20,c21,c22⟩:=L.tl.tl.b0.a3
  obtain ⟨c30,c31,c32⟩:=L.tl.tl.tl.b0.a3
  go_wp2_with fail
  replace L:=L.swap.drew
  clear c00 c01 c02 c20 c21 c22 c30 c31 c32
  obtain ⟨c00,c01,c02⟩:=L.b0.a3
  obtain ⟨f00,f01,f02⟩:=L.b0.f3
  obtain ⟨c10,c11,c12⟩:=L.tl.b0.a3
  go_region_held3 (fun w' => w'.cell? ⟨w2.heap.size,0,none⟩ = some (.bool (ng p))∧w'.cell? ⟨w2.heap.size,1,none⟩ = some (.slice A8 (zl p) c8)∧w'.cell? ⟨w2.heap.size,2,none⟩ = some (.slice B8 (len r) k8)) (first | (with_reducible exact ⟨L.tl.b0.c30,L.tl.b0.c31,L.tl.b0.c32⟩) | exact ⟨L.tl.b0.c30,L.tl.b0.c31,L.tl.b0.c32⟩ | (have LP:=L.putQ (by omega) (by first | (simp;done) | (simp;omega)) (ng a9) A9 B9 (zl a9) c9 (zl (d9:Int)) k9;exact ⟨LP.tl.b0.c30,LP.tl.b0.c31,LP.tl.b0.c32⟩)) (first | (go_at_call 164;(with_reducible refine (N1.out _ _ ?_ ).mono ?_);(· (refine L.getZ ?_;(repeat (first | (with_reducible exact mS) | apply mT))));rintro e wh ⟨vh,rfl,iz,be⟩;obtain ⟨A9,c9,rfl,in9⟩:=iz.form;replace L:=(L.step be).n in9;clear be iz in9;(try (obtain ⟨x00,x01,x02⟩:=L.b0.a3;obtain ⟨y00,y01,y02⟩:=L.b0.f3))) | (go_at_call 164;(with_reducible refine (N2.out _ _ ?_ ).mono ?_);(· (refine L.getZ ?_;(repeat (first | (with_reducible exact mS) | apply mT))));rintro e wh ⟨vh,rfl,iz,be⟩;obtain ⟨B9,k9,rfl,in9⟩:=iz.form;replace L:=(L.step be).n in9;clear be iz in9;(try (obtain ⟨x00,x01,x02⟩:=L.b0.a3;obtain ⟨y00,y01,y02⟩:=L.b0.f3))))
  clear c00 f00 c01 f01 c02 f02 c10 c11 c12
  go_wp2_with fail
  have LP:=L.putQ (by omega) (by first | (simp;done) | (simp;omega)) (ng a9) A9 B9 (zl a9) c9 (zl (d9:Int)) k9
  obtain ⟨k0,k1,k2⟩:=LP.b0.a3
  unfold put3 at k0 k1 k2
  exact bodyPost_ret (v:=.agg #[.bool (ng a9),.slice A9 (zl a9) c9,.slice B9 (zl (d9:Int)) k9]) (by simp [results,Tryz.results98,go_sem,k0,k1,k2]) rfl ⟨_,rfl,⟨_,_,rfl,LP.getN (by simp),(show IsN _ _ (d9:Int).natAbs from LP.getN (by simp))⟩,LP.below⟩
theorem div_ends {a b c d:Rat} (hab:a≤b) (hc:0 < c) (hcd:c≤d):(if a < 0 then a / c else a / d) = min4 (a / c) (a / d) (b / c) (b / d)∧(if b < 0 then b / d else b / c) = max4 (a / c) (a / d) (b / c) (b / d):=by
 have hd:0 < d:=rle_lt hc hcd
 have i1:=inv_anti hc hcd
 have i2:=Rat.le_of_lt (inv_pos hc)
 have i3:=Rat.le_of_lt (inv_pos hd)
 simp only [Rat.div_def]
 have b1:=mul_nn hab i2
 have b2:=mul_nn hab i3
 have m4:=min4_le (a * c⁻¹) (a * d⁻¹) (b * c⁻¹) (b * d⁻¹)
 have M4:=le_max4 (a * c⁻¹) (a * d⁻¹) (b * c⁻¹) (b * d⁻¹)
 constructor
 ·by_cases h:a < 0
  ·rw [if_pos h]
   have a1:=mul_np i1 (Rat.le_of_lt h)
   rw [Rat.mul_comm,Rat.mul_comm d⁻¹] at a1
   exact Rat.le_antisymm (le_min4 Rat.le_refl a1 b1 (Rat.le_trans a1 b2)) m4.1
  ·rw [if_neg h]
   have a1:=mul_nn i1 (Rat.not_lt.1 h)
   rw [Rat.mul_comm,Rat.mul_comm c⁻¹] at a1
   exact Rat.le_antisymm (le_min4 a1 Rat.le_refl (Rat.le_trans a1 b1) b2) m4.2.1
 ·by_cases h:b < 0
  ·rw [if_pos h]
   have a1:=mul_np i1 (Rat.le_of_lt h)
   rw [Rat.mul_comm,Rat.mul_comm d⁻¹] at a1
   exact Rat.le_antisymm M4.2.2.2 (max4_le (Rat.le_trans b1 a1) b2 a1 Rat.le_refl)
  ·rw [if_neg h]
   have a1:=mul_nn i1 (Rat.not_lt.1 h)
   rw [Rat.mul_comm,Rat.mul_comm c⁻¹] at a1
   exact Rat.le_antisymm M4.2.2.1 (max4_le b1 (Rat.le_trans b2 a1) Rat.le_refl a1)
theorem dq_lt0 (m e:Int):dq m e < 0 ↔ m < 0:=by
 have h:=dcm_lt m e 0 0
 rw [dcm_zero,show dq 0 0 = 0 from rfl] at h
 rw [← h]
 unfold cmpI
 (repeat' split) <;> omega
theorem dq_gt0 (m e:Int):0 < dq m e ↔ 0 < m:=by
 have h:=dcm_lt 0 0 m e
 rw [dcm_swap m e 0 0,dcm_zero,show dq 0 0 = 0 from rfl] at h
 rw [← h]
 unfold cmpI
 (repeat' split) <;> omega
theorem quo_lo {m e n f m2 e2 n2 f2:Int} (h1:dcm m e n f≤0) (h2:dcm m2 e2 n2 f2≤0) (hp:0 < m2) (hp2:0 < n2):Rat.divInt (qtA m e (if m < 0 then m2 else n2) (if m < 0 then e2 else f2)) (qtD m e (if m < 0 then m2 else n2) (if m < 0 then e2 else f2):Int) = min4 (dq m e / dq m2 e2) (dq m e / dq n2 f2) (dq n f / dq m2 e2) (dq n f / dq n2 f2):=by
 rw [← (div_ends ((dcm_le _ _ _ _).1 h1) ((dq_gt0 m2 e2).2 hp) ((dcm_le _ _ _ _).1 h2)).1]
 have hs:=dq_lt0 m e
 by_cases h:m < 0
 ·rw [if_pos h,if_pos h,if_pos (hs.2 h)]
  exact qt_val (by omega)
 ·rw [if_neg h,if_neg h,if_neg (fun h9 => h (hs.1 h9))]
  exact qt_val (by omega)
theorem quo_hi {m e n f m2 e2 n2 f2:Int} (h1:dcm m e n f≤0) (h2:dcm m2 e2 n2 f2≤0) (hp:0 < m2) (hp2:0 < n2):Rat.divInt (qtA n f (if n < 0 then n2 else m2) (if n < 0 then f2 else e2)) (qtD n f (if n < 0 then n2 else m2) (if n < 0 then f2 else e2):Int) = max4 (dq m e / dq m2 e2) (dq m e / dq n2 f2) (dq n f / dq m2 e2) (dq n f / dq n2 f2):=by
 rw [← (div_ends ((dcm_le _ _ _ _).1 h1) ((dq_gt0 m2 e2).2 hp) ((dcm_le _ _ _ _).1 h2)).2]
 have hs:=dq_lt0 n f
 by_cases h:n < 0
 ·rw [if_pos h,if_pos h,if_pos (hs.2 h)]
  exact qt_val (by omega)
 ·rw [if_neg h,if_neg h,if_neg (fun h9 => h (hs.1 h9))]
  exact qt_val (by omega)
theorem cmp_signs {m n:Int} (h:cmpI m 0 = cmpI n 0):(cmpI m 0 < 0 → m < 0∧n < 0)∧(¬ cmpI m 0 < 0 → cmpI m 0 ≠ 0 → 0 < m∧0 < n):=by
 unfold cmpI at *
 (repeat' split at *) <;> omega

end Go.Proofs.YtiddbhhhmeopeaaGreatDoor
