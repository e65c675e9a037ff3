/- Base texts, joined: ProdB, ProdC, RefProd, QuotC, QuotD, QuotE, RefQuot, Powmod. -/
import Derived.Test.YtiddbhhhmeopeaaGreatDoorBaseNW9
import Derived.Test.YtiddbhhhmeopeaaGreatDoorBaseRW9
/- Walks: bits.Len (by the library's contract), product.Power. -/
namespace Go.Proofs.YtiddbhhhmeopeaaGreatDoor
set_option maxHeartbeats 64000000
open Go.RowKit
set_option linter.unusedVariables false
set_option linter.unusedSimpArgs false
set_option maxRecDepth 100000

def lenRen:Go.Shelf.Ren:=⟨fun | 125 => 282 | 128 => 254 | 129 => 283 | n => n,fun | 3 => 3 | 4 => 4 | 46 => 142 | 5 => 5 | 9 => 9 | 51 => 140 | 53 => 126 | n => n,fun | n => n⟩
theorem lenLays:Go.Proofs.Lays.n125 Tryz.prog lenRen:={
 mixed:=by kernel_rfl
 f125:=Tryz.func282.trans (congrArg some (by kernel_rfl))
 f128:=Tryz.func254.trans (congrArg some (by kernel_rfl))
 f129:=Tryz.func283.trans (congrArg some (by kernel_rfl))
 t3:=Tryz.underlying3
 a3:=Tryz.isAgg3
 z3:=Tryz.sizeOf3
 v3:=Tryz.zeroValue3
 t4:=Tryz.underlying4
 a4:=Tryz.isAgg4
 z4:=Tryz.sizeOf4
 v4:=Tryz.zeroValue4
 t5:=Tryz.underlying5
 a5:=Tryz.isAgg5
 z5:=Tryz.sizeOf5
 v5:=Tryz.zeroValue5
 t9:=Tryz.underlying9
 a9:=Tryz.isAgg9
 z9:=Tryz.sizeOf9
 v9:=Tryz.zeroValue9
 t46:=Tryz.underlying142
 a46:=Tryz.isAgg142
 z46:=Tryz.sizeOf142
 v46:=Tryz.zeroValue142
 t51:=Tryz.underlying140
 a51:=Tryz.isAgg140
 z51:=Tryz.sizeOf140
 v51:=Tryz.zeroValue140
 t53:=Tryz.underlying126
 a53:=Tryz.isAgg126
 z53:=Tryz.sizeOf126
 v53:=Tryz.zeroValue126 }
theorem lenU_any (x:Nat) (w:World) (h:x < 18446744073709551616) :
  Calls Tryz.prog 282 #[.int .u64 (x:Int)] w fun e w' => e = .returned (.int .i64 (blen x:Nat))∧w = w':=by
 refine (Any.bits_Len lenLays (x:Int) w (by omega) (by omega)).mono ?_
 rintro e w' ⟨rfl,rfl⟩
 refine ⟨?_,rfl⟩
 have:Lib.bitLen (x:Int).toNat = blen x:=by
  rw [Int.toNat_natCast]
  exact bitLenAux_eq 64 x (by omega)
 rw [this]

theorem ofInt64 (a:Nat) (ha:a < 18446744073709551616):(BitVec.ofInt 64 (a:Int)).toNat = a:=by
 rw [BitVec.ofInt_natCast,BitVec.toNat_ofNat];exact Nat.mod_eq_of_lt (by omega)
theorem and_one_i64 (a:Nat) (ha:a < 9223372036854775808):bits .and .i64 (a:Int) 1 = ((a % 2:Nat):Int):=by
 show IntKind.i64.wrap ((BitVec.ofInt 64 (a:Int) &&& BitVec.ofInt 64 ((1:Nat):Int)).toNat:Int) = _
 rw [BitVec.toNat_and,ofInt64 a (by omega),ofInt64 1 (by omega),Nat.and_one_is_mod,IntKind.wrap_i64]
 omega
theorem bit_i64 (n k:Nat) (hn:n < 9223372036854775808):bits .and .i64 ((n:Int) / 2 ^ k) 1 = ((n / 2 ^ k % 2:Nat):Int):=by
 have e1:(n:Int) / 2 ^ k = ((n / 2 ^ k:Nat):Int):=by rw [Int.natCast_ediv,Int.natCast_pow];rfl
 rw [e1,and_one_i64 _ (Nat.lt_of_le_of_lt (Nat.div_le_self _ _) hn)]

theorem div_two_pow (n k:Nat):n / 2 ^ (k + 1) = n / 2 ^ k / 2:=by rw [Nat.pow_succ,Nat.div_div_eq_div_mul]
def top (n:Nat) (t:Int):Nat:=n / 2 ^ (t + 1).toNat
theorem top_end (n:Nat):top n (-1) = n:=by unfold top;simp
theorem top_start (n:Nat):top n ((blen n:Int) - 1) = 0:=by
 unfold top
 rw [show ((blen n:Int) - 1 + 1).toNat = blen n from by omega]
 exact Nat.div_eq_of_lt (lt_two_pow_blen n)
theorem top_step (n k:Nat) {b:Nat} (hb:n / 2 ^ k % 2 = b):top n ((k:Int) - 1) = 2 * top n k + b:=by
 unfold top
 rw [show ((k:Int) - 1 + 1).toNat = k from by omega,show ((k:Int) + 1).toNat = k + 1 from by omega,div_two_pow]
 omega
theorem top_le (n:Nat) (t:Int):top n t≤n:=Nat.div_le_self _ _

theorem power_any (x n:Nat) (va:Value) (w:World) (ha:IsN w va x) (hx:len x≤1000000) (hn:n≤64) :
  Calls Tryz.prog 280 #[va,.int .i64 (n:Int)] w (RetN w (x ^ n)):=by
 have hb7:blen n≤7:=blen_le (by omega)
 have H1:=Hd9 (lenU_any n)
 have HS:=Hd9 (top_start n)
 have HLP:=Hd9 (fun e (he:e≤64) => show len (x ^ e)≤65000000 by
  have h1:=len_pow x e
  have h2:e * len x≤64 * 1000000:=Nat.mul_le_mul he hx
  omega)
 obtain ⟨A,m,c,rfl,ha⟩:=ha
 generalize blen n = bn at *
 go_enter Tryz.func280,Tryz.ntmps280
 go_wp2_with fail
 refine (of_any 1 w (by omega)).mono ?_
 rintro e w1 ⟨v1,rfl,o1⟩
 go_wp2_with fail
 refine (H1.out w1 (by omega)).mono ?_
 rintro e w' ⟨rfl,rfl⟩
 go_wp2_with fail
 go_loopw [5,6] (fun p i wr => ∃ t:Int,i = .int .i64 t∧-1≤t∧t < 64∧Own wr w.heap.size p (dig (x ^ top n t))∧Below w.heap.size w wr) (fun _ i _ => (intOf i + 1).toNat)
 case atStart => exact ⟨_,rfl,by omega,by omega,by rw [HS.out,Nat.pow_zero];exact o1.own,o1.below⟩
 case round =>
  obtain ⟨t,rfl,h1,h2,hown,hbe⟩:=hrel
  clear o1
  by_cases ht:t = -1
  ·subst ht
   rw [top_end] at hown
   go_wp2_with fail
   go_ret
   exact ⟨_,rfl,hown,hbe⟩
  ·obtain ⟨k,rfl⟩:∃ k:Nat,t = (k:Int):=⟨t.toNat,by omega⟩
   clear ht
   have hl1:=top_le n k
   have hSQ:=Hd9 (square_any (x ^ top n k) _ wr (isN_of_own hown rfl) (Nat.le_trans (HLP.out _ (by omega)) (by omega)))
   have hbit:=bit_i64 n k (by omega)
   obtain ⟨b,hb⟩:=nm9 (n / 2 ^ k % 2)
   have hst:=top_step n k hb
   have hl2:=top_le n ((k:Int) - 1)
   rw [hb] at hbit
   have hb2:b < 2:=by omega
   have HST:=Hd9 hst
   rw [pow_even] at hSQ
   have hl3:2 * top n k≤64:=by omega
   clear hb hst hl2
   rcases (show b = 0 ∨ b = 1 by omega) with rfl | rfl
   ·go_wp2_with fail
    refine hSQ.out.mono ?_
    rintro e w2 ⟨v2,rfl,o2⟩
    go_wp2_with fail
    go_roundw
    case rel => exact ⟨(k:Int) - 1,by go_num,by omega,by omega,by rw [HST.out,Nat.add_zero];exact o2.own.base_le hbe.size,hbe.trans (o2.below.mono hbe.size)⟩
    case measure => simp [intOf] <;> omega
   ·go_wp2_with fail
    refine hSQ.out.mono ?_
    rintro e w2 ⟨v2,rfl,o2⟩
    have hbe2:=hbe.trans (o2.below.mono hbe.size)
    have HM:=Hd9 (mul_any (x ^ (2 * top n k)) x v2 _ w2 o2.isN ⟨A,m,c,rfl,ha.mono hbe2⟩ (Nat.le_trans (HLP.out _ hl3) (by omega)) (by omega))
    go_wp2_with fail
    refine HM.out.mono ?_
    rintro e w3 ⟨v3,rfl,o3⟩
    go_wp2_with fail
    go_roundw
    case rel => exact ⟨(k:Int) - 1,by go_num,by omega,by omega,by rw [HST.out,← pow_odd];exact o3.own.base_le hbe2.size,hbe2.trans (o3.below.mono hbe2.size)⟩
    case measure => simp [intOf] <;> omega

end Go.Proofs.YtiddbhhhmeopeaaGreatDoor


/- Walks: product.Sum;rows of slices. -/
namespace Go.Proofs.YtiddbhhhmeopeaaGreatDoor
set_option maxHeartbeats 64000000
open Go.RowKit
set_option linter.unusedVariables false
set_option linter.unusedSimpArgs false
set_option maxRecDepth 100000
structure Nats (w:World) (A:Option Addr) (n:Nat) (f:Nat → Nat):Prop where
 place:∀ j,j < n → ∃ b off V m c,A = some ⟨b,off,none⟩∧b < w.heap.size∧w.cell? ⟨b,off + j,none⟩ = some (.slice V m c)∧IsN w (.slice V m c) (f j)
theorem Nats.mono {w w':World} {A:Option Addr} {n:Nat} {f:Nat → Nat} (h:Nats w A n f) (hb:Below w.heap.size w w'):Nats w' A n f:=
 ⟨fun j hj => by
  obtain ⟨b,off,V,m,c,h1,h2,h3,h4⟩:=h.place j hj
  exact ⟨b,off,V,m,c,h1,Nat.lt_of_lt_of_le h2 hb.size,(hb.cell (p:=⟨b,off + j,none⟩) h2).trans h3,h4.mono hb⟩⟩

end Go.Proofs.YtiddbhhhmeopeaaGreatDoor


/- Walks: the reference's Small,Mul,Power. -/
namespace Go.Proofs.YtiddbhhhmeopeaaGreatDoor
set_option maxHeartbeats 64000000
open Go.RowKit
set_option linter.unusedVariables false
set_option linter.unusedSimpArgs false
set_option maxRecDepth 100000

theorem rsmall_any (x m c:Nat) (va:Value) (w:World) (ha:IsN w va x) (hx:len x≤1099511627776) (hm:m < 4294967296) (hc:c < 4294967296) :
  Calls Tryz.prog 251 #[va,.int .u32 (m:Int),.int .u32 (c:Int)] w (RetN w (x * m + c)):=by
 obtain ⟨A,n,cp,rfl,ha⟩:=ha
 have hlx:len x = n:=ha.len
 have hn:n≤1099511627776:=by omega
 have HLX:=Hd9 hlx;clear hlx
 obtain ⟨g,hg⟩:∃ g,g = w.heap.size:=⟨_,rfl⟩
 have HG:=Hd9 hg;clear hg
 go_enter Tryz.func251,Tryz.ntmps251
 go_wp2_with fail
 go_loopw [7,8,15] (fun o t i wr => ∃ (k cy:Nat) (s:List Nat),i = .int .i64 k∧t = .int .u64 cy∧k≤n∧SmallIs x m c s k cy∧Own wr g o s∧Below w.heap.size w wr) (fun _ _ i _ => n - (intOf i).toNat)
 case atStart => exact ⟨0,c,[],rfl,rfl,by omega,smallIs_zero x m hc,Own.nil _ _,Below.refl _ _⟩
 case round =>
  obtain ⟨k,cy,s,rfl,rfl,hk,HS,hown,hbel⟩:=hrel
  have hcy:cy < 4294967296:=HS.2.2.1
  have hbs:=hbel.size
  have hgw:g≤wr.heap.size:=by rw [HG.out];exact hbs
  have hsl:s.length≤1099511627776:=by rw [HS.1];omega
  rcases Nat.eq_or_lt_of_le hk with rfl | hkn
  ·have hcl:(wr.alloc (.cells #[.int .u32 (cy:Int)] 140)).cell? ⟨wr.heap.size,0,none⟩ = some (.int .u32 (cy:Int)):=by simp
   have HCL:=Hd9 hcl;clear hcl
   have HE:=Hd9 (smallIs_end HS (Nat.le_of_eq HLX.out))
   go_wp2_with (at_builtin;refine wp_app1 _ rfl _ _ rfl g _ s rfl (hown.alloc _) wr.heap.size cy rfl HCL.out hcy (by omega) (by simp;omega) ?_)
   intro o2 w2 h2 g2
   have hb2:=(hbel.alloc hbs (.cells #[.int .u32 (cy:Int)] 140)).grown g2 (by simp;omega) (fun kk hkk => by rw [← HG.out];exact hown.blockGe kk hkk)
   obtain ⟨C,cc,rfl,hsl2,_⟩:=h2.form
   have hLb:(s ++ [cy]).length≤35184372088832:=by rw [List.length_append,HS.1];simp;omega
   have HR0:=rtrim_any (s ++ [cy]) C _ cc w2 hsl2 hLb
   clear h2 g2 hsl2 hLb hsl
   generalize (s ++ [cy]).length = L at *
   have HR:=Hd9 HR0;clear HR0
   go_wp2_with fail
   refine HR.out.mono ?_
   rintro e w' ⟨v,rfl,hv⟩
   go_wp2_with fail
   go_ret
   exact ⟨_,rfl,by rw [← HE.out];exact hv.own.base_le hb2.size,hb2.trans (hv.below.mono hb2.size)⟩
  ·obtain ⟨b,off,u,rfl,_,hxc,HU,hu⟩:=ha.get hbel (k:=k) hkn
   obtain ⟨p,hp⟩:∃ p,p = u * m:=⟨_,rfl⟩
   have hpb:p≤18446744065119617025:=by rw [hp];exact mul_digits hu hm
   have hw:IntKind.u64.wrap ((u:Int) * (m:Int)) = (p:Int):=by
    rw [← Int.natCast_mul,← hp,IntKind.wrap_u64]
    omega
   have HS2:=Hd9 (smallIs_step HS HU.out hp hu hm)
   have hcl:(wr.alloc (.cells #[.int .u32 (((cy:Int) + p) % 4294967296)] 140)).cell? ⟨wr.heap.size,0,none⟩ = some (.int .u32 (((cy + p) % W32:Nat):Int)):=by
    rw [show (((cy + p) % W32:Nat):Int) = ((cy:Int) + p) % 4294967296 from by unfold W32;omega]
    simp
   have HCL:=Hd9 hcl;clear hcl
   clear hp
   go_wp2_with (at_builtin;refine wp_app1 _ rfl _ _ rfl g _ s rfl (hown.alloc _) wr.heap.size ((cy + p) % W32) rfl HCL.out (Nat.mod_lt _ W32_pos) (by omega) (by simp;omega) ?_)
   intro o2 w2 h2 g2
   have hb2:=(hbel.alloc hbs (.cells #[.int .u32 (((cy:Int) + p) % 4294967296)] 140)).grown g2 (by simp;omega) (fun kk hkk => by rw [← HG.out];exact hown.blockGe kk hkk)
   have H2':=Hd9 h2;clear h2 g2
   go_wp2_with fail
   go_roundw
   case rel => exact ⟨k + 1,(cy + p) / W32,_,by go_num,congrArg (Value.int .u64) (by unfold W32;omega),by omega,HS2.out,H2'.out,hb2⟩
   case measure => simp [intOf];omega

theorem rmul_any (x y:Nat) (va vb:Value) (w:World) (ha:IsN w va x) (hb:IsN w vb y) (hx:len x≤1099511627776) (hy:len y≤1099511627776) :
  Calls Tryz.prog 139 #[va,vb] w (RetN w (x * y)):=by
 obtain ⟨A,n,c,rfl,ha⟩:=ha
 obtain ⟨B,m,d,rfl,hb⟩:=hb
 have hlx:len x = n:=ha.len
 have hly:len y = m:=hb.len
 have hn:n≤1099511627776:=by omega
 have hm:m≤1099511627776:=by omega
 have HLX:=Hd9 hlx;clear hlx
 have HLY:=Hd9 hly;clear hly
 go_enter Tryz.func139,Tryz.ntmps139
 go_wp2_with (at_make;refine wp_mk _ rfl _ _ rfl w.heap.size _ _ (n + m) rfl rfl (by omega) (by omega) (by omega) (Nat.le_refl _) ?_)
 intro w1 h1 g1
 have b1:Below w.heap.size w w1:=(Below.refl _ _).grown g1 (Nat.le_refl _) (fun k h => by cases h)
 obtain ⟨g,hg⟩:∃ g,g = w.heap.size:=⟨_,rfl⟩
 rw [← hg] at h1 ⊢
 have HG:=Hd9 hg;clear hg
 clear g1
 have h0:Own w1 g (.slice (some ⟨g,0,none⟩) (n + m) (n + m)) (List.replicate (len y) 0 ++ List.replicate (n - 0) 0):=by
  rw [List.replicate_append_replicate,HLY.out,show m + (n - 0) = n + m from by omega];exact h1
 clear h1
 go_wp2_with fail
 go_loopw [19] (fun i wr => ∃ (k:Nat) (q:List Nat),i = .int .i64 k∧k≤n∧MulIs x y k q∧Own wr g (.slice (some ⟨g,0,none⟩) (n + m) (n + m)) (q ++ List.replicate (n - k) 0)∧Below w.heap.size w wr) (fun i _ => n - (intOf i).toNat)
 case atStart => exact ⟨0,_,rfl,by omega,mulIs_zero x y,h0,b1⟩
 case round =>
  obtain ⟨k,q,rfl,hk,HS,hown,hbe⟩:=hrel
  clear h0 b1
  rcases Nat.eq_or_lt_of_le hk with hke | hkn
  ·have hkn:n≤k:=by omega
   rw [show n - k = 0 from by omega,List.replicate_zero,List.append_nil] at hown
   have hl:=HS.1
   have HTR:=Hd9 (rtrim_any q _ _ _ wr hown.sl (by omega))
   have HE:=Hd9 (mulIs_end HS (by rw [HLX.out];exact hkn))
   clear hown hl hke
   go_wp2_with fail
   refine HTR.out.mono ?_
   rintro e w' ⟨v,rfl,o⟩
   go_wp2_with fail
   go_ret
   exact ⟨_,rfl,by rw [← HE.out];exact o.own.base_le hbe.size,hbe.trans (o.below.mono hbe.size)⟩
  ·obtain ⟨b,off,u,rfl,_,hxc,HU,hu⟩:=ha.get hbe (k:=k) hkn
   obtain ⟨hl1,hl2⟩:=mulIs_len HS
   have HL1:=Hd9 hl1
   have HL2:=Hd9 hl2
   have hin:Own wr g (.slice (some ⟨g,0,none⟩) (n + m) (n + m)) (q.take k ++ [] ++ (q.drop k).drop 0 ++ List.replicate (n - k) 0):=by
    rw [List.drop_zero,List.append_nil,List.take_append_drop]
    exact hown
   clear hown hl1 hl2
   obtain ⟨wo,hwo⟩:∃ wo:World,wo = wr:=⟨_,rfl⟩
   rw [← hwo] at hbe hin hxc ⊢
   clear hwo
   go_wp2_with fail
   go_loopw [8,26] (fun t' i wr => ∃ (j cy:Nat) (s:List Nat),i = .int .i64 j∧t' = .int .u64 cy∧j≤m∧MulAdd (q.drop k) (dig y) u s j cy∧Own wr g (.slice (some ⟨g,0,none⟩) (n + m) (n + m)) (q.take k ++ s ++ (q.drop k).drop j ++ List.replicate (n - k) 0)∧Below w.heap.size w wr) (fun _ i _ => m - (intOf i).toNat)
   case atStart => exact ⟨0,0,[],rfl,rfl,by omega,mulAdd_zero _ _ _,hin,hbe⟩
   case round =>
    obtain ⟨j,cy,s,rfl,rfl,hj,HA,hown,hbe2⟩:=hrel
    clear hin hbe hxc
    have hcy:cy < 4294967296:=HA.2.2.1
    rcases Nat.eq_or_lt_of_le hj with rfl | hjm
    ·rw [drop_all (show (q.drop k).length = j by rw [HL2.out,HLY.out]),List.append_nil] at hown
     have hfree:=hown.free (k + j)
     obtain ⟨v0,hz,_,_⟩:=hown.cell (j:=k + j) (by omega)
     have hst:=hown.store (j:=k + j) (x:=cy) hcy
     rw [show n - k = n - (k + 1) + 1 from by omega,set_end _ _ _ (show (q.take k ++ s).length = k + j by rw [List.length_append,HL1.out,HA.1])] at hst
     have hb3:=hbe2.setCell (p:=⟨g,k + j,none⟩) (by rw [HG.out];exact Nat.le_refl _) (.int .u32 (cy:Int))
     have HST:=Hd9 hst
     have HS2:=Hd9 (mulIs_step HS HU.out (by rw [HLY.out];exact HA))
     clear hst hown
     go_wp2_with fail
     go_roundw
     case rel => exact ⟨k + 1,_,by go_num,by omega,HS2.out,HST.out,hb3⟩
     case measure => simp [intOf];omega
    ·have hfree:=hown.free (k + j)
     obtain ⟨v,hz,HV,hv⟩:=hown.cell (j:=k + j) (by omega)
     obtain ⟨b',off',u',rfl,_,hyc,HU',hu'⟩:=hb.get hbe2 (k:=j) hjm
     have hlt:j < (q.drop k).length:=by rw [HL2.out,HLY.out];exact hjm
     have hV:nth (q.drop k) j = v:=by rw [← HV.out,nth_row HL1.out HA.1 hlt]
     obtain ⟨p,hp⟩:∃ p,p = u' * u:=⟨_,rfl⟩
     have hpb:p≤18446744065119617025:=by rw [hp];exact mul_digits hu' hu
     have hw:IntKind.u64.wrap ((u:Int) * (u':Int)) = (p:Int):=by
      rw [← Int.natCast_mul,Nat.mul_comm,← hp,IntKind.wrap_u64]
      omega
     have hst:=hown.store (j:=k + j) (x:=(cy + (p + v)) % W32) (Nat.mod_lt _ W32_pos)
     rw [set_row _ HL1.out HA.1 hlt,show (((cy + (p + v)) % W32:Nat):Int) = ((cy:Int) + p + v) % 4294967296 from by unfold W32;omega] at hst
     have hb3:=hbe2.setCell (p:=⟨g,k + j,none⟩) (by rw [HG.out];exact Nat.le_refl _) (.int .u32 (((cy:Int) + p + v) % 4294967296))
     have HST:=Hd9 hst
     have HA2:=Hd9 (mulAdd_step HA HU'.out hV hp hu' hv hu)
     clear hown hst HV hV hp hlt
     go_wp2_with fail
     go_roundw
     case rel => exact ⟨j + 1,(cy + (p + v)) / W32,_,by go_num,congrArg (Value.int .u64) (by unfold W32;omega),by omega,HA2.out,HST.out,hb3⟩
     case measure => simp [intOf];omega

theorem rpower_any (x n:Nat) (va:Value) (w:World) (ha:IsN w va x) (hx:len x≤1000000) (hn:n≤1000) :
  Calls Tryz.prog 269 #[va,.int .i64 (n:Int)] w (RetN w (x ^ n)):=by
 have HLP:=Hd9 (fun e (he:e≤1000) => show len (x ^ e)≤1000000001 by
  have h1:=len_pow x e
  have h2:e * len x≤1000 * 1000000:=Nat.mul_le_mul he hx
  omega)
 obtain ⟨A,m,c,rfl,ha⟩:=ha
 go_enter Tryz.func269,Tryz.ntmps269
 go_wp2_with fail
 refine (rof_any 1 w (by omega)).mono ?_
 rintro e w1 ⟨v1,rfl,o1⟩
 go_wp2_with fail
 go_loopw [5,8] (fun p i wr => ∃ k:Nat,i = .int .i64 k∧k≤n∧Own wr w.heap.size p (dig (x ^ k))∧Below w.heap.size w wr) (fun _ i _ => n - (intOf i).toNat)
 case atStart => exact ⟨0,rfl,by omega,by rw [Nat.pow_zero];exact o1.own,o1.below⟩
 case round =>
  obtain ⟨k,rfl,hk,hown,hbe⟩:=hrel
  clear o1
  rcases Nat.eq_or_lt_of_le hk with rfl | hkn
  ·go_wp2_with fail
   go_ret
   exact ⟨_,rfl,hown,hbe⟩
  ·have HM:=Hd9 (rmul_any (x ^ k) x _ _ wr (isN_of_own hown rfl) ⟨A,m,c,rfl,ha.mono hbe⟩ (Nat.le_trans (HLP.out _ (by omega)) (by omega)) (by omega))
   rw [← Nat.pow_succ] at HM
   go_wp2_with fail
   refine HM.out.mono ?_
   rintro e w3 ⟨v3,rfl,o3⟩
   go_wp2_with fail
   go_roundw
   case rel => exact ⟨k + 1,by go_num,by omega,o3.own.base_le hbe.size,hbe.trans (o3.below.mono hbe.size)⟩
   case measure => simp [intOf];omega

end Go.Proofs.YtiddbhhhmeopeaaGreatDoor


/- Walks: bits.LeadingZeros32;quotient.Small. -/
namespace Go.Proofs.YtiddbhhhmeopeaaGreatDoor
set_option maxHeartbeats 64000000
open Go.RowKit
set_option linter.unusedVariables false
set_option linter.unusedSimpArgs false
set_option maxRecDepth 100000

theorem lz32_any (u:Nat) (w:World) (hu:u < 4294967296) :
  Calls Tryz.prog 271 #[.int .u32 (u:Int)] w fun e w' => e = .returned (.int .i64 ((32 - blen u:Nat):Int))∧w = w':=by
 have HB:=Hd9 (len32_any u w hu)
 have h:=blen_le (x:=u) (n:=32) hu
 generalize blen u = b at *
 go_enter Tryz.func271,Tryz.ntmps271
 go_wp2_with fail
 refine HB.out.mono ?_
 rintro e w' ⟨rfl,rfl⟩
 go_wp2_with fail
 go_ret
 exact ⟨by rw [show ((32 - b:Nat):Int) = 32 - (b:Int) from by omega];rfl,rfl⟩

theorem set_rep (k q:Nat) (qs:List Nat):(List.replicate (k + 1) 0 ++ qs).set k q = List.replicate k 0 ++ q :: qs:=by
 rw [List.replicate_succ',set_mid _ _ _ _ (List.length_replicate ..),List.append_assoc]
 rfl
def RetQS (w:World) (q r:Nat) (e:Ending) (w':World):Prop:=∃ v,e = .returned (.tuple #[v,.int .u32 (r:Int),.bool true])∧Out w w' v (dig q)

theorem qsmall_any (x d:Nat) (va:Value) (w:World) (ha:IsN w va x) (hx:len x≤1099511627776) (hd:0 < d) (hd2:d < 4294967296) :
    Calls Tryz.prog 264 #[va,.int .u32 (d:Int)] w (RetQS w (x / d) (x % d)):=by
  obtain ⟨A,n,c,rfl,ha⟩:=ha
  have hlx:len x = n:=ha.len
  have hn:n≤1099511627776:=by omega
  have hdz:((d:Int) == 0) = false:=by rw [beq_eq_false_iff_ne];omega
  have hs0:=shortSt_start x hd
  rw [hlx] at hs0
  have HS0:=Hd9 hs0
  clear hs0 hlx
  go_enter Tryz.func264,Tryz.ntmps264
  go_wp2_with (at_make;refine wp_mk _ rfl _ _ rfl w.heap.size _ _ n rfl rfl rfl rfl (by omega) (Nat.le_refl _) ?_)
  intro w1 h1 g1
  have b1:Below w.heap.size w w1:=(Below.refl _ _).grown g1 (Nat.le_refl _) (fun k h => by cases h)
  obtain ⟨g,hg⟩:∃ g,g = w.heap.size:=⟨_,rfl⟩
  rw [← hg] at h1 ⊢
  have HG:=Hd9 hg;clear hg
  clear g1
  go_wp2_with fail
  go_loopw [8,9] (fun r' i wr => ∃ (t:Int) (k r:Nat) (qs:List Nat),i = .int .i64 t∧r' = .int .u32 (r:Int)∧t = (k:Int) - 1∧k≤n∧ShortSt x d k r qs∧Own wr g (.slice (some ⟨g,0,none⟩) n n) (List.replicate k 0 ++ qs)∧Below w.heap.size w wr) (fun _ i _ => (intOf i + 1).toNat)
  case atStart => exact ⟨_,n,0,[],rfl,rfl,rfl,by omega,HS0.out,by rw [List.append_nil];exact h1,b1⟩
  case round =>
    obtain ⟨t,k,r,qs,rfl,rfl,ht,hk,HS,hown,hbe⟩:=hrel
    clear h1 b1 HS0
    have hrd:r < d:=HS.2.1
    cases k with
    | zero =>
      obtain rfl:t = -1:=by omega
      rw [List.replicate_zero,List.nil_append] at hown
      obtain ⟨e1,e2⟩:=shortSt_end HS
      have HTR:=Hd9 (trim_any qs _ _ _ wr hown.sl (by omega))
      have E1:=Hd9 e1
      have E2:=Hd9 e2
      clear hown e1 e2 HS ht
      go_wp2_with fail
      refine HTR.out.mono ?_
      rintro e w' ⟨v,rfl,o⟩
      go_wp2_with fail
      go_ret3
      exact ⟨_,by rw [← E2.out];rfl,by rw [← E1.out];exact o.own.base_le hbe.size,hbe.trans (o.below.mono hbe.size)⟩
    | succ j =>
      obtain rfl:t = (j:Int):=by omega
      obtain ⟨b,off,u,rfl,_,hxc,HU,hu⟩:=ha.get hbe (k:=j) (by omega)
      obtain ⟨hs2,hq,hr⟩:=shortSt_step HS HU.out hu
      have HD:=Hd9 (div32_any r u d wr hrd hu hd2)
      generalize (u + 4294967296 * r) / d = q at *
      generalize (u + 4294967296 * r) % d = r2 at *
      have HS2:=Hd9 hs2
      have HOWN:=Hd9 hown
      clear hown hs2 HS HU ht
      go_wp2_with fail
      refine HD.out.mono ?_
      rintro e w' ⟨rfl,nq,rfl⟩
      have hown:=HOWN.out.below (belowN (Below.refl _ wr) nq)
      have hfree:=hown.free j
      obtain ⟨z,hz,_,_⟩:=hown.cell (j:=j) (by omega)
      have hst:=hown.store (j:=j) (x:=q) hq
      rw [set_rep] at hst
      have hb2:=(belowN hbe nq).setCell (p:=⟨g,j,none⟩) (by rw [HG.out];exact Nat.le_refl _) (.int .u32 (q:Int))
      have HST:=Hd9 hst
      clear hst hown HOWN
      go_wp2_with fail
      go_roundw
      case rel => exact ⟨(j:Int) - 1,j,r2,_,by go_num,rfl,rfl,by omega,HS2.out,HST.out,hb2⟩
      case measure => simp [intOf] <;> omega

end Go.Proofs.YtiddbhhhmeopeaaGreatDoor


/- Walks: quotient.long. -/
namespace Go.Proofs.YtiddbhhhmeopeaaGreatDoor
set_option maxHeartbeats 64000000
open Go.RowKit
set_option linter.unusedVariables false
set_option linter.unusedSimpArgs false
set_option maxRecDepth 100000
theorem Own.aside {w:World} {base g n c:Nat} {l:List Nat} (h:Own w base (.slice (some ⟨g,0,none⟩) n c) l) {g' j:Nat} (hne:g ≠ g') (v:Value):Own (w.setCell ⟨g',j,none⟩ v) base (.slice (some ⟨g,0,none⟩) n c) l:=by
 obtain ⟨⟨h1,h2⟩,hs⟩:=h
 refine ⟨⟨h1,?_⟩,hs⟩
 rcases h2 with h2 | ⟨g2,cap,cur,e1,e2,e3,e4⟩
 ·exact .inl h2
 ·refine .inr ⟨g2,cap,cur,e1,e2,?_,e4⟩
  injection e1 with e1
  injection e1 with e1
  injection e1 with e1
  subst e1
  rw [heap_setCell_other w ⟨g',j,none⟩ g v hne]
  exact e3
theorem Own.lt {w:World} {base g n c:Nat} {l:List Nat} (h:Own w base (.slice (some ⟨g,0,none⟩) n c) l):g < w.heap.size:=(h.1.lt g rfl).2
theorem len_norm {y n u:Nat} (hy:len y = n + 1) (hu:nth (dig y) n = u):len (y * 2 ^ (32 - blen u)) = n + 1∧0 < u:=by
 have hyp:0 < y:=by
  rcases Nat.eq_zero_or_pos y with h | h
  ·subst h;rw [len_zero] at hy;omega
  ·exact h
 have ey:y = val ((dig y).take n) + W32 ^ n * u:=by
  have:=row_top (t:=dig y) hy
  rwa [val_dig,hu] at this
 have hlo:=val_lt (small_take (small_dig y) n)
 rw [List.length_take,length_dig,Nat.min_eq_left (by omega)] at hlo
 have hp:=pow_len_le hyp
 rw [hy,Nat.add_sub_cancel] at hp
 have hu0:0 < u:=by
  rcases Nat.eq_zero_or_pos u with h | h
  ·subst h;rw [Nat.mul_zero,Nat.add_zero] at ey;omega
  ·exact h
 have hu2:u < 2 ^ 32:=by rw [← hu];exact (small_dig y).get n
 refine ⟨Nat.le_antisymm ?_ ?_,hu0⟩
 ·apply len_le
  have hb:=lt_two_pow_blen u
  have hb2:=blen_le hu2
  have h1:y < W32 ^ n * 2 ^ blen u:=by
   have:=Nat.mul_le_mul_left (W32 ^ n) (show u + 1≤2 ^ blen u from hb)
   rw [Nat.mul_add] at this
   omega
  have h2:=Nat.mul_lt_mul_of_pos_right h1 (Nat.pow_pos (n:=32 - blen u) (show 0 < 2 by omega))
  rw [Nat.mul_assoc,← Nat.pow_add,show blen u + (32 - blen u) = 32 from by omega] at h2
  rw [Nat.pow_succ]
  exact h2
 ·rw [← hy]
  exact len_mono (Nat.le_mul_of_pos_right _ (Nat.pow_pos (by omega)))
theorem top_lt {x y n k l:Nat} (hx:len x≤n + k) (hy:len y = n + 1):x * 2 ^ l < W32 ^ k * (y * 2 ^ l):=by
 have hyp:0 < y:=by
  rcases Nat.eq_zero_or_pos y with h | h
  ·subst h;rw [len_zero] at hy;omega
  ·exact h
 have hp:=pow_len_le hyp
 rw [hy,Nat.add_sub_cancel] at hp
 rw [← Nat.mul_assoc]
 refine Nat.mul_lt_mul_of_pos_right ?_ (Nat.pow_pos (by omega))
 refine Nat.lt_of_lt_of_le (len_le_iff.1 hx) ?_
 rw [Nat.pow_add,Nat.mul_comm]
 exact Nat.mul_le_mul_left _ hp
theorem val_pad {x m:Nat} (h:len x≤m):val (over (dig x) m (List.replicate m 0) (len x)) = x∧(over (dig x) m (List.replicate m 0) (len x)).length = m:=by
 unfold over
 rw [List.take_of_length_le (l:=dig x) (by rw [length_dig];exact h),List.drop_replicate,val_append,val_dig,val_replicate]
 refine ⟨by simp,?_⟩
 rw [List.length_append,length_dig,List.length_replicate]
 omega
theorem row_cut {lo mid z:List Nat} {j u:Nat} (hl:lo.length = j + 1) (hu:nth lo j = u):lo ++ mid ++ z = lo.take j ++ (u :: mid) ++ z:=by
 have:=take_succ_nth lo j (by omega)
 rw [List.take_of_length_le (Nat.le_of_eq hl),hu] at this
 have e:lo ++ mid ++ z = (lo.take j ++ [u]) ++ mid ++ z:=by rw [← this]
 rw [e]
 simp
theorem div_norm (x y l:Nat):x * 2 ^ l / (y * 2 ^ l) = x / y∧x * 2 ^ l % (y * 2 ^ l) / 2 ^ l = x % y:=by
 have hp:0 < 2 ^ l:=Nat.pow_pos (by omega)
 refine ⟨Nat.mul_div_mul_right _ _ hp,?_⟩
 rw [Nat.mul_mod_mul_right,Nat.mul_div_cancel _ hp]
def RetQR (w:World) (q r:Nat) (e:Ending) (w':World):Prop:=∃ vq vr,e = .returned (.tuple #[vq,vr])∧Own w' w.heap.size vq (dig q)∧Own w' w.heap.size vr (dig r)∧Below w.heap.size w w'

theorem long_any (x y:Nat) (va vb:Value) (w:World) (ha:IsN w va x) (hb:IsN w vb y) (hyx:y≤x) (hx:len x≤274877906944) (hy:0 < len y) :
    Calls Tryz.prog 265 #[va,vb] w (RetQR w (x / y) (x % y)):=by
  have HA:=Hd9 ha
  have HB:=Hd9 hb
  obtain ⟨A,m,c,rfl,ha⟩:=ha
  obtain ⟨B,n',d,rfl,hb⟩:=hb
  have hlx:len x = m:=ha.len
  have hly:len y = n':=hb.len
  have hnm:=len_mono hyx
  obtain ⟨n,rfl⟩:∃ n,n' = n + 1:=⟨n' - 1,by omega⟩
  obtain ⟨k0,rfl⟩:∃ k0,m = n + k0:=⟨m - n,by omega⟩
  obtain ⟨b,off,u,rfl,_,huc,HU,hu⟩:=hb.get (Below.refl _ w) (k:=n) (by omega)
  obtain ⟨hl1,hup⟩:=len_norm hly HU.out
  have HLZ:=Hd9 (lz32_any u w hu)
  have hl31:32 - blen u < 32:=by
    have:=blen_pos hup
    omega
  generalize 32 - blen u = l at *
  have HTL:=Hd9 (top_lt (l:=l) (n:=n) (k:=k0) (by omega) hly:x * 2 ^ l < W32 ^ k0 * (y * 2 ^ l))
  have HY1:=Hd9 (shl_any y 0 l _ w HB.out (by omega) hl31 (by omega))
  have hlX:len (x * 2 ^ l)≤n + k0 + 1:=by
    have h1:=len_mul x (2 ^ l)
    have h2:len (2 ^ l)≤1:=len_le (by rw [Nat.pow_one];exact Nat.pow_lt_pow_right (n:=32) (by omega) hl31)
    omega
  have HDN:=Hd9 (div_norm x y l)
  have HPAD:=Hd9 (val_pad hlX)
  have HX1:=Hd9 (fun W h => shl_any x 0 l (Value.slice A (n + k0) c) W h (by omega) hl31 (by omega))
  rw [Nat.mul_zero,Nat.zero_add] at HX1 HY1
  have HLX:=Hd9 hlx
  have HLY:=Hd9 hly
  have HL1:=Hd9 hl1
  have hm:n + k0≤274877906944:=by omega
  clear hlx hly hyx hnm hl1 hy hx HU
  obtain ⟨X,hX⟩:∃ X,X = x * 2 ^ l:=⟨_,rfl⟩
  obtain ⟨Y,hY⟩:∃ Y,Y = y * 2 ^ l:=⟨_,rfl⟩
  rw [← hX] at HTL HDN HPAD hlX HX1
  rw [← hY] at HTL HDN HY1
  have HLY2:=Hd9 (show len Y = n + 1 by rw [hY];exact HL1.out)
  clear hX hY
  go_enter Tryz.func265,Tryz.ntmps265
  go_wp2_with fail
  refine HLZ.out.mono ?_
  rintro e w' ⟨rfl,rfl⟩
  go_wp2_with fail
  refine HY1.out.mono ?_
  rintro e w2 ⟨vY,rfl,oY⟩
  obtain ⟨BY,nY,cY,rfl⟩:=oY.slice
  have hYs:=oY.own.sl
  obtain rfl:nY = n + 1:=by rw [← HLY2.out];exact hYs.len.symm
  go_wp2_with (at_make;refine wp_mk _ rfl _ _ rfl w2.heap.size _ _ (n + k0 + 1) rfl rfl (by omega) (by omega) (by omega) (Nat.le_refl _) ?_)
  intro w3 h3 g3
  have b3:Below w2.heap.size w2 w3:=(Below.refl _ _).grown g3 (Nat.le_refl _) (fun k h => by cases h)
  obtain ⟨g,hg⟩:∃ g,g = w2.heap.size:=⟨_,rfl⟩
  have h3':Own w3 w2.heap.size (.slice (some ⟨g,0,none⟩) (n + k0 + 1) (n + k0 + 1)) (List.replicate (n + k0 + 1) 0):=by rw [hg];exact h3
  rw [← hg]
  have HG:=Hd9 hg;clear hg h3 g3
  have b13:=oY.below.trans (b3.mono oY.below.size)
  have HX2:=Hd9 (HX1.out w3 (HA.out.mono b13))
  go_wp2_with fail
  refine HX2.out.mono ?_
  rintro e w4 ⟨vX,rfl,oX⟩
  obtain ⟨AX,nX,cX,rfl⟩:=oX.slice
  have hX:=oX.own.sl
  have b4:=b3.trans (oX.below.mono b3.size)
  have h4:=h3'.below oX.below
  clear h3' b3
  go_wp2_with (with_reducible refine wp_copyAll _ rfl _ _ rfl w2 _ (n + k0 + 1) _ rfl h4 _ nX cX _ rfl hX b4 ?_)
  intro w5 h5 b5
  obtain rfl:nX = len X:=hX.len.symm
  obtain ⟨hp1,hp2⟩:=HPAD.out
  generalize over (dig X) (n + k0 + 1) (List.replicate (n + k0 + 1) 0) (len X) = R at *
  have HL0:=Hd9 (longSt_start (n:=n + 1) (k:=k0) h5.small hp1 (by omega) HTL.out)
  have hRl:R = R.take k0 ++ R.drop k0 ++ []:=by rw [List.append_nil,List.take_append_drop]
  rw [hRl] at h5
  clear HX2 h4 b4 hX oX HPAD hp1 hp2 hRl huc HLZ HX1 HY1 hlX ha hb
  go_wp2_with (at_make;refine wp_mk _ rfl _ _ rfl w5.heap.size _ _ k0 rfl rfl (by omega) (by omega) (by omega) (Nat.le_refl _) ?_)
  intro w6 h6 g6
  have b56:Below w5.heap.size w5 w6:=(Below.refl _ _).grown g6 (Nat.le_refl _) (fun k h => by cases h)
  have b6:=b5.trans (b56.mono b5.size)
  have h5':=h5.below b56
  have hgh:=h5.lt
  clear g6 b56
  obtain ⟨h,hh⟩:∃ h,h = w5.heap.size:=⟨_,rfl⟩
  rw [← hh] at h6 hgh ⊢
  have hgh2:g ≠ h:=by omega
  have hgh3:w2.heap.size≤h:=by rw [hh];exact b5.size
  clear hh h5 b5
  go_wp2_with fail
  go_loopw [10] (fun i wr => ∃ (t:Int) (k:Nat) (lo mid z qs:List Nat),i = .int .i64 t∧t = (k:Int) - 1∧k≤k0∧LongSt X Y (n + 1) k lo mid z qs∧Own wr w2.heap.size (.slice (some ⟨g,0,none⟩) (n + k0 + 1) (n + k0 + 1)) (lo ++ mid ++ z)∧Own wr h (.slice (some ⟨h,0,none⟩) k0 k0) (List.replicate k 0 ++ qs)∧Below w2.heap.size w2 wr) (fun i _ => (intOf i + 1).toNat)
  case atStart => exact ⟨_,k0,_,_,[],[],rfl,rfl,by omega,HL0.out,h5',by rw [List.append_nil];exact h6,b6⟩
  case round =>
    obtain ⟨t,k,lo,mid,z,qs,rfl,ht,hk,HS,h1,h2,hbe⟩:=hrel
    clear h5' h6 b6 HL0
    cases k with
    | zero =>
      obtain rfl:t = -1:=by omega
      rw [List.replicate_zero,List.nil_append] at h2
      obtain ⟨e1,e2⟩:=longSt_end HS
      have HTR:=Hd9 (trim_any qs _ _ _ wr h2.sl (by omega))
      have HSR:=Hd9 (fun W (hW:Below wr.heap.size wr W) => shrL_any (X % Y) 0 l (n + k0 + 1) (n + k0 + 1) _ (lo ++ mid ++ z) W (h1.sl.mono hW) e2.symm (by omega) hl31 (by omega))
      rw [Nat.mul_zero,Nat.zero_add,HDN.out.2] at HSR
      have E1:=Hd9 (show trim qs = dig (x / y) by rw [← dig_val h2.small,e1,HDN.out.1])
      clear h1 h2 e1 e2 HS ht
      go_wp2_with fail
      refine HTR.out.mono ?_
      rintro e w7 ⟨v7,rfl,o7⟩
      rw [E1.out] at o7
      go_wp2_with fail
      refine (HSR.out w7 o7.below).mono ?_
      rintro e w8 ⟨v8,rfl,o8⟩
      have hb8:=oY.below.trans (hbe.mono oY.below.size)
      have hb9:=hb8.trans (o7.below.mono hb8.size)
      go_wp2_with fail
      go_ret2
      exact ⟨_,_,rfl,(o7.own.below o8.below).base_le hb8.size,o8.own.base_le hb9.size,hb9.trans (o8.below.mono hb9.size)⟩
    | succ j =>
      obtain rfl:t = (j:Int):=by omega
      obtain ⟨v,hv⟩:=nm9 (nth lo j)
      have hlo:lo.length = j + 1:=HS.1
      have hsm:=h1.small
      rw [row_cut hlo hv] at h1
      have hv32:v < 4294967296:=by
        have hsl:Small lo:=fun y hy => hsm y (List.mem_append_left _ (List.mem_append_left _ hy))
        rw [← hv]
        exact hsl.get j
      have hlt:=longSt_lt HS hv32
      have hYp:0 < Y:=by
        rcases Nat.eq_zero_or_pos Y with h0 | h0
        · subst h0;omega
        · exact h0
      have hq:val (v :: mid) / Y < 4294967296:=(Nat.div_lt_iff_lt_mul hYp).2 hlt
      have hsm2:Small (v :: mid):=fun y hy => h1.small y (List.mem_append_left _ (List.mem_append_right _ hy))
      have HD:=Hd9 (divide_any w2 wr g j (n + k0 + 1) (n + k0 + 1 - j) n cY Y BY (lo.take j) (v :: mid) z h1 (by rw [List.length_take];omega) (by rw [List.length_cons,HS.2.1]) (by omega) (by omega) hYs hbe (by omega) hlt hsm2)
      have HST:=Hd9 (fun s hs hv' => longSt_step (s:=s) HS hv hYp hs hv')
      have H2:=Hd9 h2
      have hgle:=h1.row.2
      clear h1 h2 hlo hsm ht hlt hv HS hsm2
      obtain ⟨q,hq2⟩:=nm9 (val (v :: mid) / Y)
      rw [hq2] at HST hq
      have HQ2:=Hd9 hq2
      clear hq2
      go_wp2_with fail
      rw [show j + (n + 1) + 1 - j = n + 1 + 1 from by omega]
      refine HD.out.mono ?_
      rintro e w7 ⟨s,he,hsl,hsv,h7,hgr⟩
      rw [HQ2.out] at he
      subst he
      have hs3:=HST.out s hsl hsv
      have hb7:=grown_below hbe hgr hgle
      have h27:=H2.out.grown hgr (.inr (fun e => hgh2 (by injection e with e;exact e.symm)))
      rw [List.append_assoc (lo.take j ++ s)] at h7
      have hfree:=h27.free j
      obtain ⟨z0,hz0,_,_⟩:=h27.cell (j:=j) (by omega)
      have hst:=h27.store (j:=j) (x:=q) hq
      rw [set_rep] at hst
      have h17:=h7.aside (g':=h) (j:=j) hgh2 (.int .u32 (q:Int))
      have hb8:=hb7.setCell (p:=⟨h,j,none⟩) hgh3 (.int .u32 (q:Int))
      have H1:=Hd9 h17
      have H3:=Hd9 hst
      have HS3:=Hd9 hs3
      clear h17 hst h27 h7 hs3 hsl hsv HD HST H2
      go_wp2_with fail
      go_roundw
      case rel => exact ⟨(j:Int) - 1,j,_,_,_,_,by go_num,rfl,by omega,HS3.out,H1.out,H3.out,hb8⟩
      case measure => simp [intOf] <;> omega

end Go.Proofs.YtiddbhhhmeopeaaGreatDoor


/- Walks: quotient.DivMod,Exact,Divides,remainder. -/
namespace Go.Proofs.YtiddbhhhmeopeaaGreatDoor
set_option maxHeartbeats 64000000
open Go.RowKit
set_option linter.unusedVariables false
set_option linter.unusedSimpArgs false
set_option maxRecDepth 100000
def RetD (w:World) (q r:Nat) (e:Ending) (w':World):Prop:=∃ vq vr,e = .returned (.tuple #[vq,vr,.bool true])∧Own w' w.heap.size vq (dig q)∧Own w' w.heap.size vr (dig r)∧Below w.heap.size w w'
def RetNo (w:World) (e:Ending) (w':World):Prop:=e = .returned (.tuple #[.slice none 0 0,.slice none 0 0,.bool false])∧Below w.heap.size w w'

theorem trimD_any (x:Nat) (v:Value) (w:World) (h:IsN w v x) (hx:len x≤1099511627776):Calls Tryz.prog 222 #[v] w (RetN w x):=by
 obtain ⟨A,n,c,rfl,h⟩:=h
 have hl:len x = n:=h.len
 have:=trim_any _ A n c w h (by omega)
 rwa [trim_dig] at this

theorem divmod_zero (x:Nat) (va vb:Value) (w:World) (ha:IsN w va x) (hb:IsN w vb 0) (hx:len x≤274877906944) :
  Calls Tryz.prog 248 #[va,vb] w (RetNo w):=by
 have HTA:=Hd9 (trimD_any x va w ha (by omega))
 have HTB:=Hd9 (fun W (hW:Below w.heap.size w W) => trimD_any 0 vb W (hb.mono hW) (by rw [len_zero];omega))
 obtain ⟨A,n,c,rfl,_⟩:=ha
 obtain ⟨B,m,d,rfl,_⟩:=hb
 go_enter Tryz.func248,Tryz.ntmps248
 go_wp2_with fail
 refine HTA.out.mono ?_
 rintro e w1 ⟨v1,rfl,o1⟩
 go_wp2_with fail
 refine (HTB.out w1 o1.below).mono ?_
 rintro e w2 ⟨v2,rfl,o2⟩
 obtain ⟨B2,m2,d2,rfl⟩:=o2.slice
 have hl:=o2.own.sl.len
 rw [dig_zero] at hl
 obtain rfl:m2 = 0:=hl.symm
 have hb2:=o1.below.trans (o2.below.mono o1.below.size)
 clear hl o1 o2
 go_wp2_with fail
 go_ret3
 exact ⟨rfl,hb2⟩

theorem divmod_any (x y:Nat) (va vb:Value) (w:World) (ha:IsN w va x) (hb:IsN w vb y) (hx:len x≤274877906944) (hly:len y≤274877906944) (hy:0 < y) :
  Calls Tryz.prog 248 #[va,vb] w (RetD w (x / y) (x % y)):=by
 have HTA:=Hd9 (trimD_any x va w ha (by omega))
 have HTB:=Hd9 (fun W (hW:Below w.heap.size w W) => trimD_any y vb W (hb.mono hW) (by omega))
 obtain ⟨A,n,c,rfl,_⟩:=ha
 obtain ⟨B,m,d,rfl,_⟩:=hb
 have hyl:=len_pos hy
 go_enter Tryz.func248,Tryz.ntmps248
 go_wp2_with fail
 refine HTA.out.mono ?_
 rintro e w1 ⟨v1,rfl,o1⟩
 go_wp2_with fail
 refine (HTB.out w1 o1.below).mono ?_
 rintro e w2 ⟨v2,rfl,o2⟩
 obtain ⟨A1,n1,c1,rfl⟩:=o1.slice
 obtain ⟨B2,m2,d2,rfl⟩:=o2.slice
 have hs:=o2.own.sl
 have hm2:len y = m2:=hs.len
 have hb2:=o1.below.trans (o2.below.mono o1.below.size)
 have hown:=o1.own.below o2.below
 have hnz:((m2:Int) == 0) = false:=by rw [beq_eq_false_iff_ne];omega
 have i1:=isN_of_own hown rfl
 have i2:=o2.isN
 have HC:=cmpB_any x y _ _ w2 i1 i2
 clear o1 o2
 rcases Nat.lt_or_ge x y with hlt | hge
 ·rw [cmpI_lt (by omega)] at HC
  have HCC:=Hd9 HC
  have HLT:=Hd9 hlt
  clear HC hlt hs hm2
  go_wp2_with fail
  refine HCC.out.mono ?_
  rintro e w3 ⟨rfl,b3⟩
  go_wp2_with fail
  go_ret3
  refine ⟨_,_,rfl,?_,?_,hb2.trans (b3.mono hb2.size)⟩
  ·rw [Nat.div_eq_of_lt HLT.out,dig_zero]
   exact Own.nil _ _
  ·rw [Nat.mod_eq_of_lt HLT.out]
   exact hown.below b3
 ·have hcm:¬ cmpI (x:Int) (y:Int) < 0:=by
   unfold cmpI;rw [if_neg (by omega)];split <;> omega
  generalize cmpI (x:Int) (y:Int) = cc at *
  have HCC:=Hd9 HC
  clear HC
  by_cases h1:m2 = 1
  ·subst h1
   have hd:=dig_of_len1 hm2
   obtain ⟨b,off,u,rfl,hbl,huc,HU,hu⟩:=hs.get (Below.refl _ w2) (k:=0) (by omega)
   have huy:u = y:=by rw [← HU.out,hd];rfl
   subst huy
   have HS:=Hd9 (fun W (hW:Below w2.heap.size w2 W) => qsmall_any x u (.slice A1 n1 c1) W (i1.mono hW) (by omega) hy hu)
   have hrm:x % u < 4294967296:=Nat.lt_trans (Nat.mod_lt _ hy) hu
   have HO:=Hd9 (fun W => of_any (x % u) W (by omega))
   generalize x % u = r at *
   have HUC:=Hd9 (fun W (hW:Below w2.heap.size w2 W) => (hW.cell (p:=⟨b,off + 0,none⟩) hbl).trans huc)
   clear hd hs hm2 HU huc i1 i2 hge
   go_wp2_with fail
   refine HCC.out.mono ?_
   rintro e w3 ⟨rfl,b3⟩
   have huc3:=HUC.out w3 b3
   have HS3:=Hd9 (HS.out w3 b3)
   rw [Nat.add_zero] at huc3
   have hb3:=hb2.trans (b3.mono hb2.size)
   clear hown
   go_wp2_with fail
   refine HS3.out.mono ?_
   rintro e w4 ⟨v4,rfl,o4⟩
   have hb4:=hb3.trans (o4.below.mono hb3.size)
   go_wp2_with fail
   refine (HO.out w4).mono ?_
   rintro e w5 ⟨v5,rfl,o5⟩
   go_wp2_with fail
   go_ret3
   exact ⟨_,_,rfl,(o4.own.below o5.below).base_le hb3.size,o5.own.base_le hb4.size,hb4.trans (o5.below.mono hb4.size)⟩
  ·have hn1:((m2:Int) == 1) = false:=by rw [beq_eq_false_iff_ne];omega
   have HL:=Hd9 (fun W (hW:Below w2.heap.size w2 W) => long_any x y (.slice A1 n1 c1) (.slice B2 m2 d2) W (i1.mono hW) (i2.mono hW) hge hx hyl)
   clear hs hm2 i1 i2 hge hown
   go_wp2_with fail
   refine HCC.out.mono ?_
   rintro e w3 ⟨rfl,b3⟩
   have hb3:=hb2.trans (b3.mono hb2.size)
   have HL3:=Hd9 (HL.out w3 b3)
   go_wp2_with fail
   refine HL3.out.mono ?_
   rintro e w4 ⟨vq,vr,rfl,o1,o2,b4⟩
   go_wp2_with fail
   go_ret3
   exact ⟨_,_,rfl,o1.base_le hb3.size,o2.base_le hb3.size,hb3.trans (b4.mono hb3.size)⟩
def exB (x y:Nat):Bool:=decide (0 < y∧x % y = 0)
def exQ (x y:Nat):Nat:=if 0 < y∧x % y = 0 then x / y else 0
theorem exB_zero (x:Nat):exB x 0 = false:=decide_eq_false (by omega)
theorem exQ_zero (x:Nat):exQ x 0 = 0:=if_neg (by omega)
theorem exB_yes {x y:Nat} (h:0 < y) (h2:x % y = 0):exB x y = true:=decide_eq_true ⟨h,h2⟩
theorem exQ_yes {x y:Nat} (h:0 < y) (h2:x % y = 0):exQ x y = x / y:=if_pos ⟨h,h2⟩
theorem exB_no {x y:Nat} (h2:0 < x % y):exB x y = false:=decide_eq_false (by omega)
theorem exQ_no {x y:Nat} (h2:0 < x % y):exQ x y = 0:=if_neg (by omega)
theorem exact_any (x y:Nat) (va vb:Value) (w:World) (ha:IsN w va x) (hb:IsN w vb y) (hx:len x≤274877906944) (hly:len y≤274877906944) :
  Calls Tryz.prog 263 #[va,vb] w (RetNB w (exQ x y) (exB x y)):=by
 rcases Nat.eq_zero_or_pos y with rfl | hy
 ·rw [exQ_zero,exB_zero]
  have H:=Hd9 (divmod_zero x va vb w ha hb hx)
  clear ha hb
  go_enter Tryz.func263,Tryz.ntmps263
  go_wp2_with fail
  refine H.out.mono ?_
  rintro e w1 ⟨rfl,b1⟩
  go_wp2_with fail
  go_ret2
  exact ⟨_,rfl,by rw [dig_zero];exact Own.nil _ _,b1⟩
 ·have H:=Hd9 (divmod_any x y va vb w ha hb hx hly hy)
  clear ha hb
  rcases Nat.eq_zero_or_pos (x % y) with hr | hr
  ·rw [exQ_yes hy hr,exB_yes hy hr]
   rw [hr] at H
   clear hr
   go_enter Tryz.func263,Tryz.ntmps263
   go_wp2_with fail
   refine H.out.mono ?_
   rintro e w1 ⟨vq,vr,rfl,o1,o2,b1⟩
   obtain ⟨A,c,rfl,_,_⟩:=o2.form
   rw [dig_zero]
   clear o2
   go_wp2_with fail
   go_ret2
   exact ⟨_,rfl,o1,b1⟩
  ·rw [exQ_no hr,exB_no hr]
   have hl:=len_pos hr
   clear hr
   go_enter Tryz.func263,Tryz.ntmps263
   go_wp2_with fail
   refine H.out.mono ?_
   rintro e w1 ⟨vq,vr,rfl,o1,o2,b1⟩
   obtain ⟨A,c,rfl,_,_⟩:=o2.form
   rw [length_dig]
   clear o2
   generalize len (x % y) = k at *
   go_wp2_with fail
   go_ret2
   exact ⟨_,rfl,by rw [dig_zero];exact Own.nil _ _,b1⟩

end Go.Proofs.YtiddbhhhmeopeaaGreatDoor


/- Walks: the reference's fits,DivMod,Div,Divides,Exact. -/
namespace Go.Proofs.YtiddbhhhmeopeaaGreatDoor
set_option maxHeartbeats 64000000
open Go.RowKit
set_option linter.unusedVariables false
set_option linter.unusedSimpArgs false
set_option maxRecDepth 100000

theorem Own.far {w:World} {base:Nat} {v:Value} {l:List Nat} (h:Own w base v l) {g j:Nat} (hg:g < base) (u:Value):Own (w.setCell ⟨g,j,none⟩ u) base v l:=
 h.grown (grown_set (World.grownBy.refl w _) j u) (by
  rcases hv:v.ownBlock with _ | k
  ·exact .inl rfl
  ·refine .inr (fun e => ?_)
   have:=h.blockGe k hv
   injection e with e
   omega)

theorem rfits_any (r y:Nat) (va vb:Value) (w:World) (ha:IsN w va r) (hb:IsN w vb y) (hl:len y≤274877906944) (hy:0 < y) (hlt:r < 4294967296 * y) :
  Calls Tryz.prog 250 #[va,vb] w fun e w' => e = .returned (.int .u32 ((r / y:Nat):Int))∧Below w.heap.size w w':=by
 have hq:r / y < 4294967296:=(Nat.div_lt_iff_lt_mul hy).2 hlt
 have HLE:=Hd9 (fun k => (Nat.le_div_iff_mul_le (x:=k) (y:=r) hy))
 obtain ⟨q,hq2⟩:=nm9 (r / y)
 rw [hq2] at hq HLE ⊢
 have HS:=Hd9 (fun (m:Nat) (hm:m < 4294967296) W (hW:Below w.heap.size w W) => rsmall_any y m 0 vb W (hb.mono hW) (by omega) hm (by omega))
 have HC:=Hd9 (fun (s:Nat) v W (h1:IsN W v s) (hW:Below w.heap.size w W) => rcmpB_any s r v va W h1 (ha.mono hW))
 obtain ⟨A,n,c,rfl,_⟩:=ha
 obtain ⟨B,m,d,rfl,_⟩:=hb
 clear hlt hq2
 go_enter Tryz.func250,Tryz.ntmps250
 go_wp2_with fail
 go_loopw [5,6] (fun l h wr => ∃ lo hi:Nat,l = .int .u64 (lo:Int)∧h = .int .u64 (hi:Int)∧lo≤q∧q≤hi∧hi≤4294967295∧Below w.heap.size w wr) (fun l h _ => (intOf h - intOf l).toNat)
 case atStart => exact ⟨0,4294967295,rfl,rfl,by omega,by omega,by omega,Below.refl _ _⟩
 case round =>
  obtain ⟨lo,hi,rfl,rfl,h1,h2,h3,hbe⟩:=hrel
  rcases Nat.eq_or_lt_of_le (Nat.le_trans h1 h2) with rfl | hlh
  ·obtain rfl:lo = q:=by omega
   go_wp2_with fail
   go_ret
   exact ⟨rfl,hbe⟩
  ·obtain ⟨mid,hmid⟩:∃ mid,mid = (lo + hi + 1) / 2:=⟨_,rfl⟩
   have hm1:lo < mid:=by omega
   have hm2:mid≤hi:=by omega
   have E:((lo:Int) + hi + 1) / 2 = (mid:Int):=by omega
   have HSM:=Hd9 (HS.out mid (by omega) wr hbe)
   have HIFF:=Hd9 (HLE.out mid)
   clear hmid
   go_wp2_with fail
   refine HSM.out.mono ?_
   rintro e w1 ⟨v1,rfl,o1⟩
   have hb1:=hbe.trans (o1.below.mono hbe.size)
   have HCM:=HC.out _ v1 w1 o1.isN hb1
   rw [Nat.add_zero] at HCM
   clear HSM o1
   by_cases hle:mid≤q
   ·have hc:cmpI ((y * mid:Nat):Int) (r:Int)≤0:=by
     have:=HIFF.out.1 hle
     rw [Nat.mul_comm] at this
     unfold cmpI
     split
     ·omega
     ·rw [if_neg (by omega)];omega
    generalize cmpI ((y * mid:Nat):Int) (r:Int) = cc at *
    have HCC:=Hd9 HCM
    have HEE:=Hd9 E
    clear HCM E
    go_wp2_with fail
    refine HCC.out.mono ?_
    rintro e w2 ⟨rfl,b2⟩
    go_wp2_with fail
    go_roundw
    case rel => exact ⟨mid,hi,congrArg (Value.int .u64) HEE.out,rfl,hle,h2,h3,hb1.trans (b2.mono hb1.size)⟩
    case measure =>
     have:=HEE.out
     simp [intOf] <;> omega
   ·have hc:¬ cmpI ((y * mid:Nat):Int) (r:Int)≤0:=by
     have h4:¬ mid * y≤r:=fun h => hle (HIFF.out.2 h)
     rw [Nat.mul_comm] at h4
     unfold cmpI
     rw [if_neg (by omega),if_pos (by omega)]
     omega
    generalize cmpI ((y * mid:Nat):Int) (r:Int) = cc at *
    have HCC:=Hd9 HCM
    have HEE:=Hd9 E
    clear HCM E
    go_wp2_with fail
    refine HCC.out.mono ?_
    rintro e w2 ⟨rfl,b2⟩
    go_wp2_with fail
    go_roundw
    case rel => exact ⟨lo,mid - 1,rfl,congrArg (Value.int .u64) (by have:=HEE.out;omega),h1,by omega,by omega,hb1.trans (b2.mono hb1.size)⟩
    case measure =>
     have:=HEE.out
     simp [intOf] <;> omega
theorem own_lit (w:World) (x:Nat) (h:x < 4294967296):Own (w.alloc (.cells #[.int .u32 (x:Int)] 140)) w.heap.size (.slice (some ⟨w.heap.size,0,none⟩) 1 1) [x]:=
 ⟨World.ownsRow_lit w #[.int .u32 (x:Int)] 1 (Nat.le_refl _) (by unfold maxLen;omega) rfl,small_one h⟩

theorem rdivmod_any (x y:Nat) (va vb:Value) (w:World) (ha:IsN w va x) (hb:IsN w vb y) (hx:len x≤274877906944) (hly:len y≤274877906944) (hy:0 < y) :
    Calls Tryz.prog 227 #[va,vb] w (RetD w (x / y) (x % y)):=by
  have hyl:=len_pos hy
  have HB:=Hd9 (fun W (hW:Below w.heap.size w W) => hb.mono hW)
  obtain ⟨A,n,c,rfl,ha⟩:=ha
  obtain ⟨B,m,d,rfl,hb⟩:=hb
  have hm:len y = m:=hb.len
  have hn:len x = n:=ha.len
  have hmz:((m:Int) == 0) = false:=by rw [beq_eq_false_iff_ne];omega
  have hn40:n≤274877906944:=by omega
  have hs0:=shortSt_start x hy
  rw [hn] at hs0
  have HS0:=Hd9 hs0
  have HFI:=Hd9 (fun r v W (h1:IsN W v r) (hW:Below w.heap.size w W) (hlt:r < 4294967296 * y) => rfits_any r y v (.slice B m d) W h1 (HB.out W hW) hly hy hlt)
  have HSM:=Hd9 (fun (q:Nat) (hq:q < 4294967296) W (hW:Below w.heap.size w W) => rsmall_any y q 0 (.slice B m d) W (HB.out W hW) (by omega) hq (by omega))
  have HCM:=Hd9 (fun (r:Nat) v W (h1:IsN W v r) (hW:Below w.heap.size w W) => rcmpB_any r y v (.slice B m d) W h1 (HB.out W hW))
  have HYL:=Hd9 hly
  clear hs0 hm hn hb hyl
  go_enter Tryz.func227,Tryz.ntmps227
  go_wp2_with (at_make;refine wp_mk _ rfl _ _ rfl w.heap.size _ _ n rfl rfl rfl rfl (by omega) (Nat.le_refl _) ?_)
  intro w1 h1 g1
  have b1:Below w.heap.size w w1:=(Below.refl _ _).grown g1 (Nat.le_refl _) (fun k h => by cases h)
  obtain ⟨g,hg⟩:∃ g,g = w.heap.size:=⟨_,rfl⟩
  rw [← hg] at h1 ⊢
  have HG:=Hd9 hg;clear hg
  have hg1:=h1.lt
  clear g1
  go_wp2_with fail
  go_loopw [8,9] (fun r' i wr => ∃ (t:Int) (k r:Nat) (qs:List Nat),i = .int .i64 t∧t = (k:Int) - 1∧k≤n∧ShortSt x y k r qs∧Own wr (g + 1) r' (dig r)∧Own wr g (.slice (some ⟨g,0,none⟩) n n) (List.replicate k 0 ++ qs)∧Below w.heap.size w wr∧g < wr.heap.size) (fun _ i _ => (intOf i + 1).toNat)
  case atStart => exact ⟨_,n,0,[],rfl,rfl,by omega,HS0.out,by rw [dig_zero];exact Own.nil _ _,by rw [List.append_nil];exact h1,b1,hg1⟩
  case round =>
    obtain ⟨t,k,r,qs,rfl,ht,hk,HS,hr,hown,hbe,hgl⟩:=hrel
    clear h1 b1 HS0 hg1
    cases k with
    | zero =>
      obtain rfl:t = -1:=by omega
      rw [List.replicate_zero,List.nil_append] at hown
      obtain ⟨e1,e2⟩:=shortSt_end HS
      have HTR:=Hd9 (rtrim_any qs _ _ _ wr hown.sl (by omega))
      have E1:=Hd9 e1
      rw [e2] at hr
      clear hown e1 e2 HS ht
      go_wp2_with fail
      refine HTR.out.mono ?_
      rintro e w' ⟨v,rfl,o⟩
      go_wp2_with fail
      go_ret3
      exact ⟨_,_,rfl,by rw [← E1.out];exact o.own.base_le hbe.size,(hr.below o.below).base_le (by rw [HG.out];omega),hbe.trans (o.below.mono hbe.size)⟩
    | succ j =>
      obtain rfl:t = (j:Int):=by omega
      obtain ⟨b,off,u,rfl,_,hxc,HU,hu⟩:=ha.get hbe (k:=j) (by omega)
      have hlr:len r≤len y:=len_mono (Nat.le_of_lt HS.2.1)
      have hlt:=shortSt_long HS HU.out hu
      have hs2:=(shortSt_step HS HU.out hu).1
      have hlp:=len_push hu hlr
      have hdp:=dig_push (r:=r) hu
      obtain ⟨R,hR⟩:∃ R,R = u + 4294967296 * r:=⟨_,rfl⟩
      rw [← hR] at hlt hs2 hlp hdp
      clear hR
      have hq:=(Nat.div_lt_iff_lt_mul hy).2 hlt
      have hmr:y * (R / y)≤R:=Nat.mul_div_le _ _
      have hms:R - y * (R / y) = R % y:=by
        have:=Nat.div_add_mod R y
        omega
      have HDP:=Hd9 hdp
      obtain ⟨A',c',e,hrs,_⟩:=hr.form
      rw [length_dig] at e hrs
      subst e
      have HS2:=Hd9 hs2
      have hlr2:len r≤274877906944:=Nat.le_trans hlr HYL.out
      have hlp2:len R≤274877906945:=Nat.le_trans hlp (by have:=HYL.out;omega)
      have HMR:=Hd9 hmr
      have HMS:=Hd9 hms
      have HLT:=Hd9 hlt
      have HQ:=Hd9 hq
      clear hs2 hdp hlp hmr hms hlt hq ht HS HU hr
      go_wp2_with (at_builtin;refine wp_appS _ rfl _ _ rfl wr.heap.size _ [u] rfl (own_lit wr u hu) A' (len r) c' (dig r) rfl (hrs.mono ((Below.refl _ wr).alloc (Nat.le_refl _) _)) (by simp;omega) (by simp) ?_)
      intro v2 w2 h2 g2
      have b2:=((Below.refl wr.heap.size wr).alloc (Nat.le_refl _) (.cells #[.int .u32 (u:Int)] 140)).grown g2 (by simp) (fun k hk => (own_lit wr u hu).blockGe k hk)
      have h2':Own w2 wr.heap.size v2 (u :: dig r):=h2
      obtain ⟨A2,c2,e2,hs2,_⟩:=h2'.form
      have hl2:(u :: dig r).length = len r + 1:=by rw [List.length_cons,length_dig]
      generalize (u :: dig r).length = L2 at *
      subst e2
      have hb2:=hbe.trans (b2.mono hbe.size)
      have HTR:=rtrim_any (u :: dig r) A2 L2 c2 w2 hs2 (by omega)
      rw [HDP.out] at HTR
      have HT2:=Hd9 HTR
      have HOW2:=Hd9 (hown.below b2)
      have hg2:g < w2.heap.size:=Nat.lt_of_lt_of_le hgl b2.size
      clear hown HTR h2 h2' hs2 g2 hl2 HDP hrs hxc
      go_wp2_with fail
      refine HT2.out.mono ?_
      rintro e w3 ⟨v3,rfl,o3⟩
      have hb3:=hb2.trans (o3.below.mono hb2.size)
      have HC3:=HCM.out R v3 w3 o3.isN hb3
      have HOW3:=Hd9 (HOW2.out.below o3.below)
      have hr3:=Hd9 (o3.own.base_le (show g + 1≤w2.heap.size from hg2))
      have hg3:g < w3.heap.size:=Nat.lt_of_lt_of_le hg2 o3.below.size
      have i3:=o3.isN
      clear o3 HOW2 HT2
      rcases Nat.lt_or_ge R y with hlt | hge
      · rw [cmpI_lt (by omega)] at HC3
        have HC:=Hd9 HC3
        have e1:=Nat.div_eq_of_lt hlt
        have e2:=Nat.mod_eq_of_lt hlt
        have hs3:=HS2.out
        rw [e1,e2] at hs3
        have HS3:=Hd9 hs3
        clear HC3 e1 e2 hs3 hlt i3
        go_wp2_with fail
        refine HC.out.mono ?_
        rintro e w4 ⟨rfl,b4⟩
        go_wp2_with fail
        go_roundw
        case rel => exact ⟨(j:Int) - 1,j,R,0 :: qs,by go_num,rfl,by omega,HS3.out,hr3.out.below b4,by
          have:=HOW3.out.below b4
          rw [List.replicate_succ',List.append_assoc] at this
          exact this,hb3.trans (b4.mono hb3.size),Nat.lt_of_lt_of_le hg3 b4.size⟩
        case measure => simp [intOf] <;> omega
      · have hcm:0≤cmpI (R:Int) (y:Int):=by
          unfold cmpI;rw [if_neg (by omega)];split <;> omega
        generalize cmpI (R:Int) (y:Int) = cc at *
        have HC:=Hd9 HC3
        clear HC3
        go_wp2_with fail
        refine HC.out.mono ?_
        rintro e w4 ⟨rfl,b4⟩
        have hb4:=hb3.trans (b4.mono hb3.size)
        have i4:=i3.mono b4
        have HF:=HFI.out R v3 w4 i4 hb4 HLT.out
        obtain ⟨q,hq⟩:=nm9 (R / y)
        rw [hq] at HF
        have hq32:q < 4294967296:=by rw [← hq];exact HQ.out
        have HMS2:=HMS.out
        have HMR2:=HMR.out
        have HS3:=HS2.out
        rw [hq] at HMS2 HMR2 HS3
        have HM1:=Hd9 HMS2
        have HM2:=Hd9 HMR2
        have HS4:=Hd9 HS3
        have HFF:=Hd9 HF
        clear HF HMS2 HMR2 HS3 HMS HMR HS2 hq HQ i3 HC
        go_wp2_with fail
        refine HFF.out.mono ?_
        rintro e w5 ⟨rfl,b5⟩
        have hb5:=hb4.trans (b5.mono hb4.size)
        have hown:=(HOW3.out.below b4).below b5
        have hfree:=hown.free j
        obtain ⟨z,hz,_,_⟩:=hown.cell (j:=j) (by omega)
        have hst:=hown.store (j:=j) (x:=q) hq32
        rw [set_rep] at hst
        obtain ⟨q2,hqc,HQ2,_⟩:=hst.cell (j:=j) (by omega)
        obtain rfl:q = q2:=by
          rw [← HQ2.out]
          have:=nth_mid (List.replicate j 0) qs q (List.length_replicate ..)
          rw [List.append_assoc] at this
          exact this.symm
        have hb6:=hb5.setCell (p:=⟨g,j,none⟩) (by rw [HG.out];exact Nat.le_refl _) (.int .u32 (q:Int))
        have i6:IsN (w5.setCell ⟨g,j,none⟩ (.int .u32 (q:Int))) v3 R:=isN_of_own (((hr3.out.below b4).below b5).far (Nat.lt_succ_self g) _) rfl
        have HSM2:=Hd9 (HSM.out q hq32 _ hb6)
        have HST:=Hd9 hst
        have hg6:g < (w5.setCell ⟨g,j,none⟩ (.int .u32 (q:Int))).heap.size:=Nat.lt_of_lt_of_le (Nat.lt_of_lt_of_le hg3 b4.size) (Nat.le_trans b5.size (by simp [World.setCell]))
        clear hown hst HQ2 hr3 HOW3 HFF
        go_wp2_with fail
        refine HSM2.out.mono ?_
        rintro e w7 ⟨v7,rfl,o7⟩
        rw [Nat.add_zero] at o7
        have hb7:=hb6.trans (o7.below.mono hb6.size)
        have HL:=rless_any R (y * q) v3 v7 w7 (i6.mono o7.below) o7.isN (Nat.le_trans hlp2 (by omega)) HM2.out
        rw [HM1.out] at HL
        have HLL:=Hd9 HL
        have HST7:=Hd9 (HST.out.below o7.below)
        have hg7:g < w7.heap.size:=Nat.lt_of_lt_of_le hg6 o7.below.size
        clear HL HSM2 HST o7 i6
        go_wp2_with fail
        refine HLL.out.mono ?_
        rintro e w8 ⟨v8,rfl,o8⟩
        go_wp2_with fail
        go_roundw
        case rel => exact ⟨(j:Int) - 1,j,R % y,q :: qs,by go_num,rfl,by omega,HS4.out,o8.own.base_le hg7,HST7.out.below o8.below,hb7.trans (o8.below.mono hb7.size),Nat.lt_of_lt_of_le hg7 o8.below.size⟩
        case measure => simp [intOf] <;> omega

theorem rdiv_any (x y:Nat) (va vb:Value) (w:World) (ha:IsN w va x) (hb:IsN w vb y) (hx:len x≤274877906944) (hly:len y≤274877906944) (hy:0 < y) :
  Calls Tryz.prog 245 #[va,vb] w (RetN w (x / y)):=by
 have H:=Hd9 (rdivmod_any x y va vb w ha hb hx hly hy)
 clear ha hb
 go_enter Tryz.func245,Tryz.ntmps245
 go_wp2_with fail
 refine H.out.mono ?_
 rintro e w1 ⟨vq,vr,rfl,o1,o2,b1⟩
 go_wp2_with fail
 go_ret
 exact ⟨_,rfl,o1,b1⟩

end Go.Proofs.YtiddbhhhmeopeaaGreatDoor


/- Walks: Powmod,of the program and of the reference. -/
namespace Go.Proofs.YtiddbhhhmeopeaaGreatDoor
set_option maxHeartbeats 64000000
open Go.RowKit
set_option linter.unusedVariables false
set_option linter.unusedSimpArgs false
set_option maxRecDepth 100000

end Go.Proofs.YtiddbhhhmeopeaaGreatDoor

