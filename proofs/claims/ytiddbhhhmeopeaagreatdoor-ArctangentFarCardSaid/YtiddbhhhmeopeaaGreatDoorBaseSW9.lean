/- Base texts, joined: RootMath, RootA, RootB, RootC, RefRoot. -/
import Derived.Test.YtiddbhhhmeopeaaGreatDoorBaseNW9
import Derived.Test.YtiddbhhhmeopeaaGreatDoorBasePW9
/- Plain mathematics of roots (Newton's steps, digit by digit) and of common divisors: nothing of the program. -/
namespace Go.Proofs.YtiddbhhhmeopeaaGreatDoor
set_option maxHeartbeats 64000000
def rootUpto (k a:Nat):Nat → Nat
 | 0 => 0
 | n + 1 => if (n + 1) ^ k≤a then n + 1 else rootUpto k a n
def rt (k a:Nat):Nat:=rootUpto k a a

theorem pow_lt_back {x y k:Nat} (h:x ^ k < y ^ k):x < y:=by
 rcases Nat.lt_or_ge x y with h2 | h2
 ·exact h2
 ·have:=Nat.pow_le_pow_left h2 k
  omega
theorem rootUpto_le (k a:Nat) (hk:0 < k):∀ n,rootUpto k a n ^ k≤a
  | 0 => by rw [rootUpto,Nat.zero_pow hk];exact Nat.zero_le _
  | n + 1 => by
    rw [rootUpto]
    split
    · assumption
    · exact rootUpto_le k a hk n
theorem rootUpto_max (k a:Nat) {t:Nat} (h:t ^ k≤a):∀ n,t≤n → t≤rootUpto k a n
  | 0,hn => by rw [rootUpto];exact hn
  | n + 1,hn => by
    rw [rootUpto]
    split
    · exact hn
    · rename_i hh
      rcases Nat.eq_or_lt_of_le hn with rfl | h2
      · exact absurd h hh
      · exact rootUpto_max k a h n (by omega)
theorem rt_le {k:Nat} (a:Nat) (hk:0 < k):rt k a ^ k≤a:=rootUpto_le k a hk a
theorem rt_max {k a t:Nat} (hk:0 < k) (h:t ^ k≤a):t≤rt k a:=
 rootUpto_max k a h a (Nat.le_trans (Nat.le_self_pow (by omega) t) h)
theorem rt_lt {k:Nat} (a:Nat) (hk:0 < k):a < (rt k a + 1) ^ k:=by
 rcases Nat.lt_or_ge a ((rt k a + 1) ^ k) with h | h
 ·exact h
 ·have:=rt_max hk h
  omega
theorem rt_unique {k a r:Nat} (hk:0 < k) (h1:r ^ k≤a) (h2:a < (r + 1) ^ k):rt k a = r:=by
 have h3:=rt_max hk h1
 have h4:=pow_lt_back (Nat.lt_of_le_of_lt (rt_le a hk) h2)
 omega
theorem rt_self {k:Nat} (a:Nat) (hk:0 < k):rt k a≤a:=Nat.le_trans (Nat.le_self_pow (by omega) _) (rt_le a hk)
theorem rt_zero {k:Nat} (hk:0 < k):rt k 0 = 0:=by
 have:=rt_self 0 hk
 omega
theorem rt_one (a:Nat):rt 1 a = a:=rt_unique (by omega) (by rw [Nat.pow_one];exact Nat.le_refl _) (by rw [Nat.pow_one];omega)
theorem rt_pos {k a:Nat} (hk:0 < k) (ha:0 < a):0 < rt k a:=rt_max hk (by rw [Nat.one_pow];exact ha)
theorem rt_small {k a:Nat} (hk:0 < k) (ha:0 < a) (h:a < 2 ^ k):rt k a = 1:=rt_unique hk (by rw [Nat.one_pow];exact ha) h
theorem rearr {t r A B:Nat} (h:t≤r) (h2:A≤B):r * A + t * B≤t * A + r * B:=by
 obtain ⟨d,rfl⟩:=Nat.exists_eq_add_of_le h
 rw [Nat.add_mul,Nat.add_mul]
 have:=Nat.mul_le_mul_left d h2
 omega
theorem rearr_pow (t r k:Nat):r * t ^ k + t * r ^ k≤t * t ^ k + r * r ^ k:=by
 rcases Nat.le_total t r with h | h
 ·exact rearr h (Nat.pow_le_pow_left h k)
 ·have:=rearr h (Nat.pow_le_pow_left h k)
  omega
theorem amgm (t r:Nat):∀ k,(k + 1) * (t * r ^ k)≤t ^ (k + 1) + k * r ^ (k + 1)
  | 0 => by simp
  | k + 1 => by
    have ih:=amgm t r k
    have h1:=rearr_pow t r (k + 1)
    have h2:=Nat.mul_le_mul_right r ih
    rw [Nat.pow_succ t (k + 1),Nat.pow_succ r (k + 1)]
    have e1:(k + 1) * (t * r ^ k) * r = (k + 1) * (t * r ^ (k + 1)):=by rw [Nat.pow_succ];ac_rfl
    have e2:(t ^ (k + 1) + k * r ^ (k + 1)) * r = r * t ^ (k + 1) + k * (r * r ^ (k + 1)):=by
      rw [Nat.add_mul,Nat.mul_comm _ r];congr 1;ac_rfl
    rw [e1,e2] at h2
    rw [Nat.mul_comm (t ^ (k + 1)) t,Nat.mul_comm (r ^ (k + 1)) r]
    generalize t ^ (k + 1) = A at *
    generalize r ^ (k + 1) = B at *
    generalize t * B = X at *
    generalize r * B = Y at *
    generalize r * A = Z at *
    generalize t * A = V at *
    have e3:(k + 1 + 1) * X = (k + 1) * X + X:=by rw [Nat.add_mul,Nat.one_mul]
    have e4:(k + 1) * Y = k * Y + Y:=by rw [Nat.add_mul,Nat.one_mul]
    omega
def stp (k a r:Nat):Nat:=(r * (k - 1) + a / r ^ (k - 1)) / k
theorem stp_ge {k a r t:Nat} (hk:0 < k) (hr:0 < r) (h:t ^ k≤a):t≤stp k a r:=by
 obtain ⟨j,rfl⟩:∃ j,k = j + 1:=⟨k - 1,by omega⟩
 unfold stp
 rw [Nat.add_sub_cancel,Nat.le_div_iff_mul_le (by omega)]
 rcases Nat.le_total (t * (j + 1)) (r * j) with h1 | h1
 ·exact Nat.le_trans h1 (Nat.le_add_right _ _)
 ·obtain ⟨d,hd⟩:=Nat.exists_eq_add_of_le h1
  rw [hd]
  refine Nat.add_le_add_left ((Nat.le_div_iff_mul_le (Nat.pow_pos hr)).2 ?_) _
  have h2:=amgm t r j
  have e1:(j + 1) * (t * r ^ j) = (t * (j + 1)) * r ^ j:=by ac_rfl
  rw [e1,hd,Nat.add_mul] at h2
  have e2:r * j * r ^ j = j * r ^ (j + 1):=by rw [Nat.pow_succ];ac_rfl
  rw [e2] at h2
  omega
theorem stp_end {k a r:Nat} (hk:0 < k) (hr:0 < r) (h:r≤stp k a r):r ^ k≤a:=by
 obtain ⟨j,rfl⟩:∃ j,k = j + 1:=⟨k - 1,by omega⟩
 unfold stp at h
 rw [Nat.add_sub_cancel,Nat.le_div_iff_mul_le (by omega),Nat.mul_add,Nat.mul_one] at h
 have h1:r≤a / r ^ j:=by omega
 rw [Nat.le_div_iff_mul_le (Nat.pow_pos hr)] at h1
 rw [Nat.pow_succ,Nat.mul_comm]
 exact h1
theorem rt_stp {k a r:Nat} (hk:0 < k) (hr:0 < r):rt k a≤stp k a r:=stp_ge hk hr (rt_le a hk)
theorem rt_end {k a r:Nat} (hk:0 < k) (hr:0 < r) (h1:rt k a≤r) (h2:r≤stp k a r):rt k a = r:=
 Nat.le_antisymm h1 (rt_max hk (stp_end hk hr h2))
theorem rt_start {k:Nat} (a p:Nat) (hk:0 < k):rt k a≤(rt k (a / 2 ^ (k * p)) + 1) * 2 ^ p:=by
 have h1:=rt_lt (a / 2 ^ (k * p)) hk
 rw [Nat.div_lt_iff_lt_mul (Nat.pow_pos (by omega))] at h1
 have h3:a < ((rt k (a / 2 ^ (k * p)) + 1) * 2 ^ p) ^ k:=by
  rw [Nat.mul_pow,← Nat.pow_mul,Nat.mul_comm p k];exact h1
 exact Nat.le_of_lt (pow_lt_back (Nat.lt_of_le_of_lt (rt_le a hk) h3))
theorem dgs_one {a k:Nat} (hk:0 < k) (h:(blen a + k - 1) / k = 1):a < 2 ^ k:=by
 have h1:blen a + k - 1 < 2 * k:=(Nat.div_lt_iff_lt_mul hk).1 (by omega)
 exact Nat.lt_of_lt_of_le (lt_two_pow_blen a) (Nat.pow_le_pow_right (by omega) (by omega))
theorem dgs_pos {a k:Nat} (hk:0 < k) (ha:0 < a):0 < (blen a + k - 1) / k:=by
 have:=blen_pos ha
 exact Nat.div_pos (by omega) hk
theorem dgs_places {a k p:Nat} (hk:0 < k) (h2:2≤(blen a + k - 1) / k) (hp:p≤(blen a + k - 1) / k / 2):k * p + 1≤blen a:=by
 have h1:(blen a + k - 1) / k * k≤blen a + k - 1:=Nat.div_mul_le_self _ _
 generalize (blen a + k - 1) / k = D at *
 have h3:(p + 1) * k≤D * k:=Nat.mul_le_mul_right _ (by omega)
 rw [Nat.add_mul,Nat.one_mul,Nat.mul_comm p k] at h3
 omega
theorem dgs_le (a:Nat) {k:Nat} (hk:0 < k):(blen a + k - 1) / k≤blen a:=by
 rcases Nat.eq_zero_or_pos (blen a) with h | h
 ·rw [h,Nat.zero_add,Nat.div_eq_of_lt (by omega)];exact Nat.le_refl _
 ·have h1:(blen a + k - 1) / k < blen a + 1:=(Nat.div_lt_iff_lt_mul hk).2 (by
   have:blen a * 1≤blen a * k:=Nat.mul_le_mul_left _ hk
   rw [Nat.add_mul,Nat.one_mul]
   omega)
  omega
theorem cut_pos {a n:Nat} (h:n + 1≤blen a) (ha:0 < a):0 < a / 2 ^ n:=
 Nat.div_pos (Nat.le_trans (Nat.pow_le_pow_right (by omega) (by omega)) (two_pow_blen_le ha)) (Nat.pow_pos (by omega))
theorem cut_lt {a n:Nat} (hn:0 < n) (ha:0 < a):a / 2 ^ n < a:=
 Nat.div_lt_self ha (Nat.one_lt_two_pow (by omega))
def RtIs (k a r j:Nat):Prop:=r ^ k≤a∧a < (r + 2 ^ j) ^ k
theorem rtIs_start (a:Nat) {k:Nat} (hk:0 < k):RtIs k a 0 (blen a / k + 1):=by
 refine ⟨by rw [Nat.zero_pow hk];exact Nat.zero_le _,?_⟩
 rw [Nat.zero_add,← Nat.pow_mul]
 refine Nat.lt_of_lt_of_le (lt_two_pow_blen a) (Nat.pow_le_pow_right (by omega) ?_)
 have:=Nat.div_add_mod (blen a) k
 have:=Nat.mod_lt (blen a) hk
 rw [Nat.add_mul,Nat.one_mul,Nat.mul_comm]
 omega
theorem rtIs_yes {k a r j:Nat} (h:RtIs k a r (j + 1)) (h2:(r + 2 ^ j) ^ k≤a):RtIs k a (r + 2 ^ j) j:=by
 refine ⟨h2,?_⟩
 have e:r + 2 ^ j + 2 ^ j = r + 2 ^ (j + 1):=by rw [Nat.pow_succ];omega
 rw [e]
 exact h.2
theorem rtIs_no {k a r j:Nat} (h:RtIs k a r (j + 1)) (h2:a < (r + 2 ^ j) ^ k):RtIs k a r j:=⟨h.1,h2⟩
theorem rtIs_end {k a r:Nat} (hk:0 < k) (h:RtIs k a r 0):rt k a = r:=rt_unique hk h.1 h.2
theorem rtIs_le {k a r j:Nat} (hk:0 < k) (h:RtIs k a r j):r≤a:=Nat.le_trans (Nat.le_self_pow (by omega) _) h.1
theorem gcd_step (a b:Nat):Nat.gcd b (a % b) = Nat.gcd a b:=by rw [Nat.gcd_comm a b,Nat.gcd_rec b a,Nat.gcd_comm]
theorem lowest_pos (x:Nat) {y:Nat} (hy:0 < y):0 < Nat.gcd x y:=Nat.gcd_pos_of_pos_right x hy
end Go.Proofs.YtiddbhhhmeopeaaGreatDoor


/- Walks: root's step,newton,Root,Sqrt,Square. -/
namespace Go.Proofs.YtiddbhhhmeopeaaGreatDoor
set_option maxHeartbeats 64000000
open Go.RowKit
set_option linter.unusedVariables false
set_option linter.unusedSimpArgs false
set_option maxRecDepth 100000

theorem IsN.uniq {w:World} {v:Value} {x y:Nat} (h1:IsN w v x) (h2:IsN w v y):x = y:=by
 obtain ⟨A,n,c,e1,s1⟩:=h1
 obtain ⟨A',n',c',e2,s2⟩:=h2
 rw [e1] at e2
 injection e2 with e3 e4 e5
 subst e3;subst e4;subst e5
 refine dig_inj (eq_of_nth (s1.len.trans s2.len.symm) fun j => ?_)
 rcases Nat.lt_or_ge j n with hj | hj
 ·obtain ⟨b,off,hA,_,hc⟩:=s1.place (by omega)
  obtain ⟨b',off',hA',_,hc'⟩:=s2.place (by omega)
  rw [hA] at hA'
  injection hA' with hA'
  injection hA' with f1 f2
  subst f1;subst f2
  have h3:=hc j hj
  rw [hc' j hj] at h3
  injection h3 with h3
  injection h3 with h3 h4
  exact (Int.ofNat.inj h4).symm
 ·rw [nth_of_ge (by rw [s1.len];exact hj),nth_of_ge (by rw [s2.len];exact hj)]
noncomputable def numOf (w:World) (v:Value):Nat:=open Classical in if h:∃ x,IsN w v x then h.choose else 0
theorem IsN.num {w:World} {v:Value} {x:Nat} (h:IsN w v x):numOf w v = x:=by
 unfold numOf
 have hx:∃ x,IsN w v x:=⟨x,h⟩
 rw [dif_pos hx]
 exact hx.choose_spec.uniq h

theorem smallI_any (x m:Nat) (i:Int) (hi:i = (m:Int)) (va:Value) (w:World) (ha:IsN w va x) (hx:len x≤1099511627776) (hm:m < 4294967296) :
  Calls Tryz.prog 281 #[va,.int .u32 i,.int .u32 0] w (RetN w (x * m)):=by
 subst hi
 exact small_any x m 0 va w ha hx hm (by omega)
theorem qsmallI_any (x d:Nat) (i:Int) (hi:i = (d:Int)) (va:Value) (w:World) (ha:IsN w va x) (hx:len x≤1099511627776) (hd:0 < d) (hd2:d < 4294967296) :
  Calls Tryz.prog 264 #[va,.int .u32 i] w (RetQS w (x / d) (x % d)):=by
 subst hi
 exact qsmall_any x d va w ha hx hd hd2

theorem step_any (a r j:Nat) (va vr:Value) (w:World) (ha:IsN w va a) (hr:IsN w vr r) (hla:len a≤1000000) (hlr:len r≤1000000) (hp:0 < r) (hj:1≤j) (hj2:j≤63) :
  Calls Tryz.prog 279 #[va,vr,.int .i64 ((j:Int) + 1)] w (RetN w (stp (j + 1) a r)):=by
 have hpp:0 < r ^ j:=Nat.pow_pos hp
 have hlp:len (r ^ j)≤64000000:=by
  have h1:=len_pow r j
  have h2:j * len r≤63 * 1000000:=Nat.mul_le_mul hj2 hlr
  omega
 have hlq:=len_div a (r ^ j)
 have hlm:=len_small r j 0 (by omega) (by omega)
 have HST:=Hd9 (show stp (j + 1) a r = (r * j + a / r ^ j) / (j + 1) from rfl)
 have HP:=Hd9 (power_any r j vr w hr (by omega) (by omega))
 have HD:=Hd9 (fun v W (h1:IsN W v (r ^ j)) (hW:Below w.heap.size w W) => divmod_any a (r ^ j) va v W (ha.mono hW) h1 (by omega) (by omega) hpp)
 have HS:=Hd9 (fun i hi W (hW:Below w.heap.size w W) => smallI_any r j i hi vr W (hr.mono hW) (by omega) (by omega))
 obtain ⟨q,hq⟩:=nm9 (a / r ^ j)
 rw [hq] at hlq HD HST
 obtain ⟨z,hz⟩:=nm9 (a % r ^ j)
 rw [hz] at HD
 rw [Nat.add_zero] at hlm
 have hls:=len_add (r * j) q
 obtain ⟨A,n,c,rfl,_⟩:=ha
 obtain ⟨B,m,d,rfl,_⟩:=hr
 clear hq hz hpp
 rw [HST.out]
 go_enter Tryz.func279,Tryz.ntmps279
 go_wp2_with fail
 refine HP.out.mono ?_
 rintro e w1 ⟨v1,rfl,o1⟩
 have H1:=Hd9 (HD.out v1 w1 o1.isN o1.below)
 go_wp2_with fail
 refine H1.out.mono ?_
 rintro e w2 ⟨vq,vz,rfl,oq,oz,b2⟩
 have hb2:=o1.below.trans (b2.mono o1.below.size)
 have iq:=isN_of_own (x:=q) oq rfl
 clear o1 oz oq b2 H1
 go_wp2_with fail
 refine (HS.out _ (by omega) w2 hb2).mono ?_
 rintro e w3 ⟨v3,rfl,o3⟩
 have hb3:=hb2.trans (o3.below.mono hb2.size)
 have H3:=Hd9 (add_any (r * j) q v3 vq w3 o3.isN (iq.mono o3.below) (by omega) (by omega))
 go_wp2_with fail
 refine H3.out.mono ?_
 rintro e w4 ⟨v4,rfl,o4⟩
 have hb4:=hb3.trans (o4.below.mono hb3.size)
 have i4:=o4.isN
 clear o3 o4 H3
 go_wp2_with fail
 refine (qsmallI_any (r * j + q) (j + 1) _ (by omega) v4 w4 i4 (by omega) (by omega) (by omega)).mono ?_
 rintro e w5 ⟨v5,rfl,o5⟩
 go_wp2_with fail
 go_ret
 exact ⟨v5,rfl,o5.own.base_le hb4.size,hb4.trans (o5.below.mono hb4.size)⟩
theorem stepK_any (a r k:Nat) (va vr:Value) (w:World) (ha:IsN w va a) (hr:IsN w vr r) (hla:len a≤1000000) (hlr:len r≤1000000) (hp:0 < r) (hk:2≤k) (hk2:k≤64) :
  Calls Tryz.prog 279 #[va,vr,.int .i64 (k:Int)] w (RetN w (stp k a r)):=by
 obtain ⟨j,rfl⟩:∃ j,k = j + 1:=⟨k - 1,by omega⟩
 exact step_any a r j va vr w ha hr hla hlr hp (by omega) (by omega)

end Go.Proofs.YtiddbhhhmeopeaaGreatDoor


/- Walks: root's newton,Root,Sqrt,Square. -/
namespace Go.Proofs.YtiddbhhhmeopeaaGreatDoor
set_option maxHeartbeats 64000000
open Go.RowKit
set_option linter.unusedVariables false
set_option linter.unusedSimpArgs false
set_option maxRecDepth 100000

theorem newton_any (k:Nat) (hk:2≤k) (hk2:k≤64):∀ a,0 < a → len a≤10000 → ∀ (va:Value) (w:World),IsN w va a →
    Calls Tryz.prog 277 #[va,.int .i64 (k:Int)] w (RetN w (rt k a)):=by
  intro a
  induction a using Nat.strongRecOn with
  | ind a IH =>
    intro ha hla va w hia
    have hb1:=blen_le_len a
    have hb2:=blen_pos ha
    have HB:=Hd9 (nbits_any a va w hia (by omega))
    have hD:=dgs_pos (a:=a) (k:=k) (by omega) ha
    have hDle:=dgs_le a (k:=k) (by omega)
    have HONE:=Hd9 (fun h => rt_small (by omega) ha (dgs_one (a:=a) (k:=k) (by omega) h))
    have HPL:=Hd9 (fun p h2 hp => dgs_places (a:=a) (k:=k) (p:=p) (by omega) h2 hp)
    have hcp:=fun n h => cut_pos (a:=a) (n:=n) h ha
    have HSTA:=Hd9 (fun p => rt_start (k:=k) a p (by omega))
    have E:((blen a:Int) + k - 1) / (k:Int) = (((blen a + k - 1) / k:Nat):Int):=by
      rw [Int.natCast_ediv];congr 1;omega
    obtain ⟨D,hDD⟩:=nm9 ((blen a + k - 1) / k)
    rw [hDD] at hD hDle HONE HPL E
    have HI:=Hd9 (fun W (hW:Below w.heap.size w W) => hia.mono hW)
    obtain ⟨A,n,c,rfl,_⟩:=hia
    clear hDD
    generalize blen a = bl at *
    by_cases h1:D = 1
    · subst h1
      rw [HONE.out rfl]
      clear HPL hD hDle IH HI
      go_enter Tryz.func277,Tryz.ntmps277
      go_wp2_with fail
      refine HB.out.mono ?_
      rintro e w' ⟨rfl,rfl⟩
      go_wp2_with fail
      refine (of_any 1 w (by omega)).mono ?_
      rintro e w1 ⟨v1,rfl,o1⟩
      go_wp2_with fail
      go_ret
      exact ⟨v1,rfl,o1⟩
    · have hne:((D:Int) == 1) = false:=by rw [beq_eq_false_iff_ne];omega
      obtain ⟨P,hP⟩:=nm9 (D / 2)
      have EP:(D:Int) / 2 = (P:Int):=by omega
      have hP1:1≤P:=by omega
      have hP2:P≤160000:=by omega
      have hkp:=HPL.out P (by omega) (by omega)
      have hcp2:=hcp (k * P) hkp
      have hst:=HSTA.out P
      have hM1:1≤k * P:=Nat.mul_le_mul (show 1≤k by omega) hP1
      obtain ⟨M,hM⟩:=nm9 (k * P)
      have EM:(k:Int) * (P:Int) = (M:Int):=by rw [← Int.natCast_mul,hM]
      have EMin:min (P:Int) 1048576 = (P:Int):=by omega
      rw [hM] at hcp2 hst hM1 hkp
      have hlt:=cut_lt hM1 ha
      have hlb:=len_mono (Nat.le_of_lt hlt)
      have HIH:=Hd9 (IH (a / 2 ^ M) hlt hcp2 (by omega))
      have hlu:=len_mono (rt_self (k:=k) (a / 2 ^ M) (by omega))
      have HSH:=Hd9 (shrK_any a M _ w (HI.out w (Below.refl _ _)) (by omega) (by omega))
      obtain ⟨b,hb⟩:=nm9 (a / 2 ^ M)
      rw [hb] at HSH HIH hst hlb hlu
      obtain ⟨u,hu⟩:=nm9 (rt k b)
      rw [hu] at HIH hst hlu
      have hl1:=len_add u 1
      have hl11:len 1≤1:=len_le1 (by omega)
      have hl2:=len_shl (u + 1) P
      have hrp:=rt_pos (k:=k) (by omega) ha
      have HNX:=Hd9 (fun (x:Nat) v W (hx:rt k a≤x) (hl:len x≤400000) (h1:IsN W v x) (hW:Below w.heap.size w W) => stepK_any a x k _ v W (HI.out W hW) h1 (by omega) (by omega) (by omega) hk hk2)
      have HEND:=Hd9 (fun (x:Nat) (hx:rt k a≤x) (h:x≤stp k a x) => rt_end (k:=k) (by omega) (by omega) hx h)
      have HGE:=Hd9 (fun (x:Nat) (hx:rt k a≤x) => rt_stp (k:=k) (a:=a) (r:=x) (by omega) (by omega))
      have HST:=Hd9 hst
      clear HPL hDle hP hcp hcp2 hst hb hu hM1 hM hlt hrp IH HONE
      generalize rt k a = R at *
      go_enter Tryz.func277,Tryz.ntmps277
      go_wp2_with fail
      refine HB.out.mono ?_
      rintro e w' ⟨rfl,rfl⟩
      go_wp2_with fail
      refine HSH.out.mono ?_
      rintro e w1 ⟨v1,rfl,o1⟩
      go_wp2_with fail
      refine (HIH.out v1 w1 o1.isN).mono ?_
      rintro e w2 ⟨v2,rfl,o2⟩
      have hb2:=o1.below.trans (o2.below.mono o1.below.size)
      have i2:=o2.isN
      clear o1 o2 HIH HSH HB
      go_wp2_with fail
      refine (of_any 1 w2 (by omega)).mono ?_
      rintro e w3 ⟨v3,rfl,o3⟩
      have hb3:=hb2.trans (o3.below.mono hb2.size)
      have H3:=Hd9 (add_any u 1 v2 v3 w3 (i2.mono o3.below) o3.isN (by omega) (by omega))
      go_wp2_with fail
      refine H3.out.mono ?_
      rintro e w4 ⟨v4,rfl,o4⟩
      have hb4:=hb3.trans (o4.below.mono hb3.size)
      have i4:=o4.isN
      clear o3 o4 H3 i2 hb2 hb3
      go_wp2_with fail
      refine (shlK_any (u + 1) P v4 w4 i4 (by omega) (by omega)).mono ?_
      rintro e w5 ⟨v5,rfl,o5⟩
      have hb5:=hb4.trans (o5.below.mono hb4.size)
      have ow:=o5.own.base_le hb4.size
      clear o5 i4 hb4
      go_wp2_with fail
      go_loopw [8] (fun r wr => ∃ x:Nat,Own wr w.heap.size r (dig x)∧R≤x∧len x≤400000∧Below w.heap.size w wr) (fun r wr => numOf wr r)
      case atStart => exact ⟨_,ow,HST.out,by omega,hb5⟩
      case round =>
        obtain ⟨x,hown,hx,hlx,hbe⟩:=hrel
        clear ow hb5 HST
        have H6:=Hd9 (HNX.out x _ wr hx hlx (isN_of_own hown rfl) hbe)
        go_wp2_with fail
        refine H6.out.mono ?_
        rintro e w6 ⟨v6,rfl,o6⟩
        have hb6:=hbe.trans (o6.below.mono hbe.size)
        have ow6:=hown.below o6.below
        have on6:=o6.own.base_le hbe.size
        have HC:=cmpB_any (stp k a x) x v6 _ w6 o6.isN (isN_of_own ow6 rfl)
        have hge:=HGE.out x hx
        have hlen:=len_mono (x:=stp k a x) (y:=x)
        have hend:=HEND.out x hx
        have hnum:=(isN_of_own hown rfl:IsN wr _ x).num
        clear o6 H6 HNX HEND HGE hown
        obtain ⟨y,hy⟩:=nm9 (stp k a x)
        rw [hy] at HC hge hlen hend on6
        clear hy
        rcases Nat.lt_or_ge y x with hlt | hle
        · rw [cmpI_lt (by omega)] at HC
          have HCC:=Hd9 HC
          clear HC
          go_wp2_with fail
          refine HCC.out.mono ?_
          rintro e w7 ⟨rfl,b7⟩
          go_wp2_with fail
          go_roundw
          case rel => exact ⟨y,on6.below b7,hge,by have:=hlen (by omega);omega,hb6.trans (b7.mono hb6.size)⟩
          case measure =>
            rw [hnum,(isN_of_own (on6.below b7) rfl:IsN w7 _ y).num]
            exact hlt
        · have hcm:0≤cmpI (y:Int) (x:Int):=by
            unfold cmpI;rw [if_neg (by omega)];split <;> omega
          generalize cmpI (y:Int) (x:Int) = cc at *
          have HCC:=Hd9 HC
          have HE:=Hd9 (hend hle)
          clear HC hend
          go_wp2_with fail
          refine HCC.out.mono ?_
          rintro e w7 ⟨rfl,b7⟩
          go_wp2_with fail
          go_ret
          exact ⟨_,rfl,by rw [HE.out];exact ow6.below b7,hb6.trans (b7.mono hb6.size)⟩

theorem root_any (a k:Nat) (va:Value) (w:World) (ha:IsN w va a) (hla:len a≤10000) (hk:1≤k) (hk2:k≤64) :
  Calls Tryz.prog 273 #[va,.int .i64 (k:Int)] w (RetNB w (rt k a) true):=by
 have HT:=Hd9 (trimD_any a va w ha (by omega))
 have HB:=Hd9 (nbits_any a va w ha (by omega))
 have hbl:=blen_le_len a
 rcases Nat.eq_or_lt_of_le hk with rfl | hk1
 ·rw [rt_one]
  obtain ⟨A,n,c,rfl,_⟩:=ha
  go_enter Tryz.func273,Tryz.ntmps273
  go_wp2_with fail
  refine HT.out.mono ?_
  rintro e w1 ⟨v1,rfl,o1⟩
  go_wp2_with fail
  go_ret2
  exact ⟨v1,rfl,o1.own,o1.below⟩
 ·have hk1f:((k:Int) == 1) = false:=by rw [beq_eq_false_iff_ne];omega
  rcases Nat.eq_zero_or_pos a with rfl | hp
  ·rw [rt_zero (by omega)]
   rw [blen_zero] at HB
   obtain ⟨A,n,c,rfl,_⟩:=ha
   go_enter Tryz.func273,Tryz.ntmps273
   go_wp2_with fail
   refine HB.out.mono ?_
   rintro e w' ⟨rfl,rfl⟩
   go_wp2_with fail
   refine HT.out.mono ?_
   rintro e w1 ⟨v1,rfl,o1⟩
   go_wp2_with fail
   go_ret2
   exact ⟨v1,rfl,o1.own,o1.below⟩
  ·have HN:=Hd9 (newton_any k (by omega) hk2 a hp hla va w ha)
   have hbp:=blen_pos hp
   have hb0:((blen a:Int) == 0) = false:=by rw [beq_eq_false_iff_ne];omega
   obtain ⟨A,n,c,rfl,_⟩:=ha
   generalize blen a = bl at *
   go_enter Tryz.func273,Tryz.ntmps273
   go_wp2_with fail
   refine HB.out.mono ?_
   rintro e w' ⟨rfl,rfl⟩
   go_wp2_with fail
   refine HN.out.mono ?_
   rintro e w1 ⟨v1,rfl,o1⟩
   go_wp2_with fail
   go_ret2
   exact ⟨v1,rfl,o1.own,o1.below⟩
def Ret2 (w:World) (q r:Nat) (e:Ending) (w':World):Prop:=∃ vq vr,e = .returned (.tuple #[vq,vr])∧Own w' w.heap.size vq (dig q)∧Own w' w.heap.size vr (dig r)∧Below w.heap.size w w'
theorem sqrt_any (a:Nat) (va:Value) (w:World) (ha:IsN w va a) (hla:len a≤10000) :
  Calls Tryz.prog 268 #[va] w (Ret2 w (rt 2 a) (a - rt 2 a * rt 2 a)):=by
 have HR:=Hd9 (root_any a 2 va w ha hla (by omega) (by omega))
 have hle:=rt_le a (show 0 < 2 by omega)
 have hlr:=len_mono (rt_self (k:=2) a (by omega))
 rw [Nat.pow_two] at hle
 have HS:=Hd9 (fun v W (h1:IsN W v (rt 2 a * rt 2 a)) (hW:Below w.heap.size w W) => subYes_any a (rt 2 a * rt 2 a) va v W (ha.mono hW) h1 (by omega) hle)
 obtain ⟨A,n,c,rfl,_⟩:=ha
 clear hle
 generalize rt 2 a = r at *
 go_enter Tryz.func268,Tryz.ntmps268
 go_wp2_with fail
 refine HR.out.mono ?_
 rintro e w1 ⟨v1,rfl,o1⟩
 go_wp2_with fail
 refine (square_any r v1 w1 o1.isN (by omega)).mono ?_
 rintro e w2 ⟨v2,rfl,o2⟩
 have hb2:=o1.below.trans (o2.below.mono o1.below.size)
 have H2:=Hd9 (HS.out v2 w2 o2.isN hb2)
 have ow:=o1.own.below o2.below
 clear o1 o2
 go_wp2_with fail
 refine H2.out.mono ?_
 rintro e w3 ⟨v3,rfl,o3⟩
 go_wp2_with fail
 go_ret2
 exact ⟨v1,v3,rfl,ow.below o3.below,o3.own.base_le hb2.size,hb2.trans (o3.below.mono hb2.size)⟩

end Go.Proofs.YtiddbhhhmeopeaaGreatDoor


/- Walks: root's Gcd,Lowest. -/
namespace Go.Proofs.YtiddbhhhmeopeaaGreatDoor
set_option maxHeartbeats 64000000
open Go.RowKit
set_option linter.unusedVariables false
set_option linter.unusedSimpArgs false
set_option maxRecDepth 100000

theorem gcd_any (x y:Nat) (va vb:Value) (w:World) (ha:IsN w va x) (hb:IsN w vb y) (hx:len x≤274877906944) (hy:len y≤274877906944) :
  Calls Tryz.prog 262 #[va,vb] w (RetN w (Nat.gcd x y)):=by
 have HTA:=Hd9 (trimD_any x va w ha (by omega))
 have HTB:=Hd9 (fun W (hW:Below w.heap.size w W) => trimD_any y vb W (hb.mono hW) (by omega))
 obtain ⟨A,n,c,rfl,_⟩:=ha
 obtain ⟨B,m,d,rfl,_⟩:=hb
 obtain ⟨G,hG⟩:=nm9 (Nat.gcd x y)
 rw [hG]
 have HG:=Hd9 hG
 clear hG
 go_enter Tryz.func262,Tryz.ntmps262
 go_wp2_with fail
 refine HTA.out.mono ?_
 rintro e w1 ⟨v1,rfl,o1⟩
 go_wp2_with fail
 refine (HTB.out w1 o1.below).mono ?_
 rintro e w2 ⟨v2,rfl,o2⟩
 have hb2:=o1.below.trans (o2.below.mono o1.below.size)
 have ow1:=o1.own.below o2.below
 have ow2:=o2.own.base_le o1.below.size
 clear o1 o2 HTA HTB
 go_wp2_with fail
 go_loopw [0,1] (fun a b wr => ∃ p q:Nat,Own wr w.heap.size a (dig p)∧Own wr w.heap.size b (dig q)∧Nat.gcd p q = G∧len p≤274877906944∧len q≤274877906944∧Below w.heap.size w wr) (fun _ b wr => numOf wr b)
 case atStart => exact ⟨x,y,ow1,ow2,HG.out,hx,hy,hb2⟩
 case round =>
  obtain ⟨p,q,hp,hq,hpq,hlp,hlq,hbe⟩:=hrel
  clear ow1 ow2 HG hb2
  have hnum:=(isN_of_own hq rfl:IsN wr _ q).num
  have HPQ:=Hd9 hpq
  clear hpq
  obtain ⟨A1,c1,e1,_⟩:=hp.form
  obtain ⟨B1,d1,e2,_⟩:=hq.form
  rw [length_dig] at e1 e2
  subst e1
  subst e2
  rcases Nat.eq_zero_or_pos q with rfl | hqp
  ·rw [len_zero] at hq hnum ⊢
   go_wp2_with fail
   go_ret
   exact ⟨_,rfl,by rw [← HPQ.out,Nat.gcd_zero_right];exact hp,hbe⟩
  ·have hlq0:=len_pos hqp
   have HD:=Hd9 (divmod_any p q _ _ wr (isN_of_own hp rfl) (isN_of_own hq rfl) (by omega) (by omega) hqp)
   have hlr:=len_mod (x:=p) hqp
   have HLT:=Hd9 (Nat.mod_lt p hqp)
   have HPQ2:=Hd9 ((gcd_step p q).trans HPQ.out)
   obtain ⟨r,hr⟩:=nm9 (p % q)
   rw [hr] at HD hlr HLT HPQ2
   clear hr
   go_wp2_with fail
   refine HD.out.mono ?_
   rintro e w3 ⟨vq,vr,rfl,oq,or,b3⟩
   have or2:=or.base_le hbe.size
   clear oq or HD
   go_wp2_with fail
   go_roundw
   case rel => exact ⟨q,r,hq.below b3,or2,HPQ2.out,hlq,by omega,hbe.trans (b3.mono hbe.size)⟩
   case measure =>
    rw [hnum,(isN_of_own or2 rfl:IsN w3 _ r).num]
    exact HLT.out

theorem lowest_any (x y:Nat) (va vb:Value) (w:World) (ha:IsN w va x) (hb:IsN w vb y) (hx:len x≤274877906944) (hy:len y≤274877906944) (hp:0 < y) :
  Calls Tryz.prog 247 #[va,vb] w (RetD w (x / Nat.gcd x y) (y / Nat.gcd x y)):=by
 have HB:=Hd9 (nbits_any y vb w hb (by omega))
 have hbp:=blen_pos hp
 have hb0:((blen y:Int) == 0) = false:=by rw [beq_eq_false_iff_ne];omega
 have HG:=Hd9 (gcd_any x y va vb w ha hb hx hy)
 have hg:=lowest_pos x hp
 have h1:=Nat.mod_eq_zero_of_dvd (Nat.gcd_dvd_left x y)
 have h2:=Nat.mod_eq_zero_of_dvd (Nat.gcd_dvd_right x y)
 have hlg:=len_mono (Nat.le_of_dvd hp (Nat.gcd_dvd_right x y))
 have HE:=Hd9 (fun (z:Nat) u v W (h1:IsN W u z) (h2:IsN W v (Nat.gcd x y)) (hz:len z≤274877906944) (h3:z % Nat.gcd x y = 0) => by
  have:=exact_any z (Nat.gcd x y) u v W h1 h2 hz (by omega)
  rwa [exQ_yes hg h3,exB_yes hg h3] at this)
 have HX:=Hd9 (fun v W (h3:IsN W v (Nat.gcd x y)) (hW:Below w.heap.size w W) => HE.out x va v W (ha.mono hW) h3 hx h1)
 have HY:=Hd9 (fun v W (h3:IsN W v (Nat.gcd x y)) (hW:Below w.heap.size w W) => HE.out y vb v W (hb.mono hW) h3 hy h2)
 obtain ⟨A,n,c,rfl,_⟩:=ha
 obtain ⟨B,m,d,rfl,_⟩:=hb
 clear hg h1 h2 hlg HE
 generalize Nat.gcd x y = g at *
 generalize blen y = bl at *
 go_enter Tryz.func247,Tryz.ntmps247
 go_wp2_with fail
 refine HB.out.mono ?_
 rintro e w' ⟨rfl,rfl⟩
 go_wp2_with fail
 refine HG.out.mono ?_
 rintro e w1 ⟨v1,rfl,o1⟩
 have H1:=Hd9 (HX.out v1 w1 o1.isN o1.below)
 go_wp2_with fail
 refine H1.out.mono ?_
 rintro e w2 ⟨v2,rfl,o2⟩
 have hb2:=o1.below.trans (o2.below.mono o1.below.size)
 have H2:=Hd9 (HY.out v1 w2 (o1.isN.mono o2.below) hb2)
 have ow2:=o2.own.base_le o1.below.size
 clear o1 o2 H1
 go_wp2_with fail
 refine H2.out.mono ?_
 rintro e w3 ⟨v3,rfl,o3⟩
 go_wp2_with fail
 go_ret3
 exact ⟨_,_,rfl,ow2.below o3.below,o3.own.base_le hb2.size,hb2.trans (o3.below.mono hb2.size)⟩

end Go.Proofs.YtiddbhhhmeopeaaGreatDoor


/- Walks: the reference's root,Sqrt,Square,Gcd. -/
namespace Go.Proofs.YtiddbhhhmeopeaaGreatDoor
set_option maxHeartbeats 64000000
open Go.RowKit
set_option linter.unusedVariables false
set_option linter.unusedSimpArgs false
set_option maxRecDepth 100000
def RetIs (w:World) (x:Nat) (e:Ending) (w':World):Prop:=∃ v,e = .returned v∧IsN w' v x∧Below w.heap.size w w'
theorem len_rt_step {a r j:Nat} (hla:len a≤10000) (hr:r≤a) (hj:j≤320000):len (r + 2 ^ j)≤400000:=by
 have h1:=len_mono hr
 have h2:=len_two_pow j
 have h3:=len_add r (2 ^ j)
 omega

theorem rroot_any (a k:Nat) (va:Value) (w:World) (ha:IsN w va a) (hla:len a≤10000) (hk:1≤k) (hk2:k≤64) :
    Calls Tryz.prog 256 #[va,.int .i64 (k:Int)] w (RetN w (rt k a)):=by
  have HB:=Hd9 (rbits_any a va w ha (by omega))
  have hbl:=blen_le_len a
  have HS:=Hd9 (rtIs_start a (show 0 < k by omega))
  have hdl:blen a / k≤blen a:=Nat.div_le_self _ _
  have E:(blen a:Int) / (k:Int) = ((blen a / k:Nat):Int):=(Int.natCast_ediv _ _).symm
  obtain ⟨D,hD⟩:=nm9 (blen a / k)
  rw [hD] at HS hdl E
  have HC:=Hd9 (fun (s:Nat) v W (h1:IsN W v s) (hW:Below w.heap.size w W) => rcmpB_any s a v va W h1 (ha.mono hW))
  obtain ⟨A,n,c,rfl,_⟩:=ha
  clear hD
  generalize blen a = bl at *
  go_enter Tryz.func256,Tryz.ntmps256
  go_wp2_with fail
  refine HB.out.mono ?_
  rintro e w' ⟨rfl,rfl⟩
  clear HB
  go_wp2_with fail
  go_loopw [5,6] (fun r i wr => ∃ (t:Int) (j x:Nat),i = .int .i64 t∧t = (j:Int) - 1∧j≤D + 1∧RtIs k a x j∧Own wr w.heap.size r (dig x)∧Below w.heap.size w wr) (fun _ i _ => (intOf i + 1).toNat)
  case atStart => exact ⟨_,D + 1,0,rfl,by omega,by omega,HS.out,by rw [dig_zero];exact Own.nil _ _,Below.refl _ _⟩
  case round =>
    obtain ⟨t,j,x,rfl,ht,hjD,hI,hown,hbe⟩:=hrel
    clear HS
    have hxa:=rtIs_le (by omega) hI
    cases j with
    | zero =>
      obtain rfl:t = -1:=by omega
      have HE:=Hd9 (rtIs_end (by omega) hI)
      clear hI hxa ht
      go_wp2_with fail
      go_ret
      exact ⟨_,rfl,by rw [HE.out];exact hown,hbe⟩
    | succ j =>
      obtain rfl:t = (j:Int):=by omega
      have hlx:=len_mono hxa
      have hl1:=len_two_pow j
      have hl2:=len_rt_step (j:=j) hla hxa (by omega)
      have HI:=Hd9 hI
      have ix:=isN_of_own hown rfl
      clear ht hxa hI
      go_wp2_with fail
      refine (rof_any 1 wr (by omega)).mono ?_
      rintro e w1 ⟨v1,rfl,o1⟩
      have H1:=rshlK_any 1 j v1 w1 o1.isN (by have:len 1≤1:=len_le1 (by omega);omega) (by omega)
      rw [Nat.one_mul] at H1
      have HSH:=Hd9 H1
      clear H1
      go_wp2_with fail
      refine HSH.out.mono ?_
      rintro e w2 ⟨v2,rfl,o2⟩
      have b2:=o1.below.trans (o2.below.mono o1.below.size)
      have H2:=Hd9 (radd_any x (2 ^ j) _ v2 w2 (ix.mono b2) o2.isN (by omega) (by omega))
      clear o1 o2 HSH
      go_wp2_with fail
      refine H2.out.mono ?_
      rintro e w3 ⟨v3,rfl,o3⟩
      have hb2:=hbe.trans (b2.mono hbe.size)
      have hb3:=hb2.trans (o3.below.mono hb2.size)
      have ow3:=o3.own.base_le hb2.size
      have hown3:=(hown.below b2).below o3.below
      have H3:=Hd9 (rpower_any (x + 2 ^ j) k v3 w3 o3.isN (by omega) (by omega))
      clear hown ix H2 o3
      go_wp2_with fail
      refine H3.out.mono ?_
      rintro e w4 ⟨v4,rfl,o4⟩
      have hb4:=hb3.trans (o4.below.mono hb3.size)
      have H4:=HC.out ((x + 2 ^ j) ^ k) v4 w4 o4.isN hb4
      have ow4:=ow3.below o4.below
      have hown4:=hown3.below o4.below
      clear o4 H3 ow3 hown3
      rcases Nat.lt_or_ge a ((x + 2 ^ j) ^ k) with hlt | hge
      · rw [cmpI_gt (by omega)] at H4
        have H5:=Hd9 H4
        have HN:=Hd9 (rtIs_no HI.out hlt)
        clear H4 hlt
        go_wp2_with fail
        refine H5.out.mono ?_
        rintro e w5 ⟨rfl,b5⟩
        go_wp2_with fail
        go_roundw
        case rel => exact ⟨(j:Int) - 1,j,x,by go_num,rfl,by omega,HN.out,hown4.below b5,hb4.trans (b5.mono hb4.size)⟩
        case measure => simp [intOf] <;> omega
      · have hcm:cmpI (((x + 2 ^ j) ^ k:Nat):Int) (a:Int)≤0:=by
          unfold cmpI
          split
          · omega
          · rw [if_neg (by omega)];omega
        have HY:=Hd9 (rtIs_yes HI.out hge)
        generalize cmpI (((x + 2 ^ j) ^ k:Nat):Int) (a:Int) = cc at *
        have H5:=Hd9 H4
        clear H4 hge
        go_wp2_with fail
        refine H5.out.mono ?_
        rintro e w5 ⟨rfl,b5⟩
        go_wp2_with fail
        go_roundw
        case rel => exact ⟨(j:Int) - 1,j,x + 2 ^ j,by go_num,rfl,by omega,HY.out,ow4.below b5,hb4.trans (b5.mono hb4.size)⟩
        case measure => simp [intOf] <;> omega

theorem rsqrt_any (a:Nat) (va:Value) (w:World) (ha:IsN w va a) (hla:len a≤10000) :
  Calls Tryz.prog 236 #[va] w (Ret2 w (rt 2 a) (a - rt 2 a * rt 2 a)):=by
 have HR:=Hd9 (rroot_any a 2 va w ha hla (by omega) (by omega))
 have hle:=rt_le a (show 0 < 2 by omega)
 have hlr:=len_mono (rt_self (k:=2) a (by omega))
 rw [Nat.pow_two] at hle
 have HS:=Hd9 (fun v W (h1:IsN W v (rt 2 a * rt 2 a)) (hW:Below w.heap.size w W) => rless_any a (rt 2 a * rt 2 a) va v W (ha.mono hW) h1 (by omega) hle)
 obtain ⟨A,n,c,rfl,_⟩:=ha
 clear hle
 generalize rt 2 a = r at *
 go_enter Tryz.func236,Tryz.ntmps236
 go_wp2_with fail
 refine HR.out.mono ?_
 rintro e w1 ⟨v1,rfl,o1⟩
 go_wp2_with fail
 refine (rmul_any r r v1 v1 w1 o1.isN o1.isN (by omega) (by omega)).mono ?_
 rintro e w2 ⟨v2,rfl,o2⟩
 have hb2:=o1.below.trans (o2.below.mono o1.below.size)
 have H2:=Hd9 (HS.out v2 w2 o2.isN hb2)
 have ow:=o1.own.below o2.below
 clear o1 o2
 go_wp2_with fail
 refine H2.out.mono ?_
 rintro e w3 ⟨v3,rfl,o3⟩
 go_wp2_with fail
 go_ret2
 exact ⟨v1,v3,rfl,ow.below o3.below,o3.own.base_le hb2.size,hb2.trans (o3.below.mono hb2.size)⟩

theorem rgcd_any (x y:Nat) (va vb:Value) (w:World) (ha:IsN w va x) (hb:IsN w vb y) (hx:len x≤274877906944) (hy:len y≤274877906944) :
  Calls Tryz.prog 244 #[va,vb] w (RetIs w (Nat.gcd x y)):=by
 have i1:=ha
 have i2:=hb
 obtain ⟨A,n,c,rfl,_⟩:=ha
 obtain ⟨B,m,d,rfl,_⟩:=hb
 obtain ⟨G,hG⟩:=nm9 (Nat.gcd x y)
 rw [hG]
 have HG:=Hd9 hG
 clear hG
 go_enter Tryz.func244,Tryz.ntmps244
 go_wp2_with fail
 go_loopw [0,1] (fun a b wr => ∃ p q:Nat,IsN wr a p∧IsN wr b q∧Nat.gcd p q = G∧len p≤274877906944∧len q≤274877906944∧Below w.heap.size w wr) (fun _ b wr => numOf wr b)
 case atStart => exact ⟨x,y,i1,i2,HG.out,hx,hy,Below.refl _ _⟩
 case round =>
  obtain ⟨p,q,hp,hq,hpq,hlp,hlq,hbe⟩:=hrel
  clear i1 i2 HG
  have hnum:=hq.num
  have HPQ:=Hd9 hpq
  clear hpq
  have j1:=hp
  have j2:=hq
  obtain ⟨A1,n1,c1,rfl,_⟩:=hp
  obtain ⟨B1,m1,d1,rfl,hs⟩:=hq
  have hm1:len q = m1:=hs.len
  clear hs
  rcases Nat.eq_zero_or_pos q with rfl | hqp
  ·rw [len_zero] at *
   subst hm1
   go_wp2_with fail
   go_ret
   exact ⟨_,rfl,by rw [← HPQ.out,Nat.gcd_zero_right];exact j1,hbe⟩
  ·have hlq0:=len_pos hqp
   have HD:=Hd9 (rdivmod_any p q _ _ wr j1 j2 (by omega) (by omega) hqp)
   have hlr:=len_mod (x:=p) hqp
   have HLT:=Hd9 (Nat.mod_lt p hqp)
   have HPQ2:=Hd9 ((gcd_step p q).trans HPQ.out)
   obtain ⟨r,hr⟩:=nm9 (p % q)
   rw [hr] at HD hlr HLT HPQ2
   have hm1p:0 < m1:=by omega
   have hlq2:len q≤274877906944:=hlq
   clear hr hm1
   go_wp2_with fail
   refine HD.out.mono ?_
   rintro e w3 ⟨vq,vr,rfl,oq,or,b3⟩
   have ir:=isN_of_own (x:=r) or rfl
   clear oq or HD
   go_wp2_with fail
   go_roundw
   case rel => exact ⟨q,r,j2.mono b3,ir,HPQ2.out,hlq2,by omega,hbe.trans (b3.mono hbe.size)⟩
   case measure =>
    rw [hnum,ir.num]
    exact HLT.out

end Go.Proofs.YtiddbhhhmeopeaaGreatDoor

