/- Base texts, joined: RootMath, RootA, RootB, RootC, RefRoot. -/
import Derived.Test.YtiddbhhhmeopeaaGreatDoorBaseNE7
import Derived.Test.YtiddbhhhmeopeaaGreatDoorBasePE7
/- Plain mathematics of roots (Newton's steps, digit by digit) and of common divisors: nothing of the program. -/
namespace Go.Proofs.YtiddbhhhmeopeaaGreatDoor
set_option maxHeartbeats 64000000
theorem gcd_step (a b : Nat) : Nat.gcd b (a % b) = Nat.gcd a b:=by rw [Nat.gcd_comm a b, Nat.gcd_rec b a, Nat.gcd_comm]
theorem lowest_pos (x : Nat) {y : Nat} (hy : 0 < y) : 0 < Nat.gcd x y:=Nat.gcd_pos_of_pos_right x hy
end Go.Proofs.YtiddbhhhmeopeaaGreatDoor


/- Walks: root's step, newton, Root, Sqrt, Square. -/
namespace Go.Proofs.YtiddbhhhmeopeaaGreatDoor
set_option maxHeartbeats 64000000
open Go.RowKit
set_option linter.unusedVariables false
set_option linter.unusedSimpArgs false
set_option maxRecDepth 100000

theorem IsN.uniq {w : World} {v : Value} {x y : Nat} (h1 : IsN w v x) (h2 : IsN w v y) : x = y:=by
 obtain ⟨A, n, c, e1, s1⟩:=h1
 obtain ⟨A', n', c', e2, s2⟩:=h2
 rw [e1] at e2
 injection e2 with e3 e4 e5
 subst e3; subst e4; subst e5
 refine dig_inj (eq_of_nth (s1.len.trans s2.len.symm) fun j => ?_)
 rcases Nat.lt_or_ge j n with hj | hj
 ·obtain ⟨b, off, hA, _, hc⟩:=s1.place (by omega)
  obtain ⟨b', off', hA', _, hc'⟩:=s2.place (by omega)
  rw [hA] at hA'
  injection hA' with hA'
  injection hA' with f1 f2
  subst f1; subst f2
  have h3:=hc j hj
  rw [hc' j hj] at h3
  injection h3 with h3
  injection h3 with h3 h4
  exact (Int.ofNat.inj h4).symm
 ·rw [nth_of_ge (by rw [s1.len]; exact hj), nth_of_ge (by rw [s2.len]; exact hj)]
noncomputable def numOf (w : World) (v : Value) : Nat:=open Classical in if h : ∃ x, IsN w v x then h.choose else 0
theorem IsN.num {w : World} {v : Value} {x : Nat} (h : IsN w v x) : numOf w v = x:=by
 unfold numOf
 have hx : ∃ x, IsN w v x:=⟨x, h⟩
 rw [dif_pos hx]
 exact hx.choose_spec.uniq h

end Go.Proofs.YtiddbhhhmeopeaaGreatDoor


/- Walks: root's newton, Root, Sqrt, Square. -/
namespace Go.Proofs.YtiddbhhhmeopeaaGreatDoor
set_option maxHeartbeats 64000000
open Go.RowKit
set_option linter.unusedVariables false
set_option linter.unusedSimpArgs false
set_option maxRecDepth 100000

end Go.Proofs.YtiddbhhhmeopeaaGreatDoor


/- Walks: root's Gcd, Lowest. -/
namespace Go.Proofs.YtiddbhhhmeopeaaGreatDoor
set_option maxHeartbeats 64000000
open Go.RowKit
set_option linter.unusedVariables false
set_option linter.unusedSimpArgs false
set_option maxRecDepth 100000

theorem gcd_any (x y : Nat) (va vb : Value) (w : World) (ha : IsN w va x) (hb : IsN w vb y) (hx : len x ≤ 274877906944) (hy : len y ≤ 274877906944) :
  Calls Tryz.prog 262 #[va, vb] w (RetN w (Nat.gcd x y)):=by
 have HTA:=Hd9 (trimD_any x va w ha (by omega))
 have HTB:=Hd9 (fun W (hW : Below w.heap.size w W) => trimD_any y vb W (hb.mono hW) (by omega))
 obtain ⟨A, n, c, rfl, _⟩:=ha
 obtain ⟨B, m, d, rfl, _⟩:=hb
 obtain ⟨G, hG⟩:=nm9 (Nat.gcd x y)
 rw [hG]
 have HG:=Hd9 hG
 clear hG
 go_enter Tryz.func262, Tryz.ntmps262
 go_wp2_with fail
 refine HTA.out.mono ?_
 rintro e w1 ⟨v1, rfl, o1⟩
 go_wp2_with fail
 refine (HTB.out w1 o1.below).mono ?_
 rintro e w2 ⟨v2, rfl, o2⟩
 have hb2:=o1.below.trans (o2.below.mono o1.below.size)
 have ow1:=o1.own.below o2.below
 have ow2:=o2.own.base_le o1.below.size
 clear o1 o2 HTA HTB
 go_wp2_with fail
 go_loopw [0, 1] (fun a b wr => ∃ p q : Nat, Own wr w.heap.size a (dig p) ∧ Own wr w.heap.size b (dig q) ∧ Nat.gcd p q = G ∧ len p ≤ 274877906944 ∧ len q ≤ 274877906944 ∧ Below w.heap.size w wr) (fun _ b wr => numOf wr b)
 case atStart => exact ⟨x, y, ow1, ow2, HG.out, hx, hy, hb2⟩
 case round =>
  obtain ⟨p, q, hp, hq, hpq, hlp, hlq, hbe⟩:=hrel
  clear ow1 ow2 HG hb2
  have hnum:=(isN_of_own hq rfl : IsN wr _ q).num
  have HPQ:=Hd9 hpq
  clear hpq
  obtain ⟨A1, c1, e1, _⟩:=hp.form
  obtain ⟨B1, d1, e2, _⟩:=hq.form
  rw [length_dig] at e1 e2
  subst e1
  subst e2
  rcases Nat.eq_zero_or_pos q with rfl | hqp
  ·rw [len_zero] at hq hnum ⊢
   go_wp2_with fail
   go_ret
   exact ⟨_, rfl, by rw [← HPQ.out, Nat.gcd_zero_right]; exact hp, hbe⟩
  ·have hlq0:=len_pos hqp
   have HD:=Hd9 (divmod_any p q _ _ wr (isN_of_own hp rfl) (isN_of_own hq rfl) (by omega) (by omega) hqp)
   have hlr:=len_mod (x:=p) hqp
   have HLT:=Hd9 (Nat.mod_lt p hqp)
   have HPQ2:=Hd9 ((gcd_step p q).trans HPQ.out)
   obtain ⟨r, hr⟩:=nm9 (p % q)
   rw [hr] at HD hlr HLT HPQ2
   clear hr
   go_wp2_with fail
   refine HD.out.mono ?_
   rintro e w3 ⟨vq, vr, rfl, oq, or, b3⟩
   have or2:=or.base_le hbe.size
   clear oq or HD
   go_wp2_with fail
   go_roundw
   case rel => exact ⟨q, r, hq.below b3, or2, HPQ2.out, hlq, by omega, hbe.trans (b3.mono hbe.size)⟩
   case measure =>
    rw [hnum, (isN_of_own or2 rfl : IsN w3 _ r).num]
    exact HLT.out

theorem lowest_any (x y : Nat) (va vb : Value) (w : World) (ha : IsN w va x) (hb : IsN w vb y) (hx : len x ≤ 274877906944) (hy : len y ≤ 274877906944) (hp : 0 < y) :
  Calls Tryz.prog 247 #[va, vb] w (RetD w (x / Nat.gcd x y) (y / Nat.gcd x y)):=by
 have HB:=Hd9 (nbits_any y vb w hb (by omega))
 have hbp:=blen_pos hp
 have hb0 : ((blen y : Int) == 0) = false:=by rw [beq_eq_false_iff_ne]; omega
 have HG:=Hd9 (gcd_any x y va vb w ha hb hx hy)
 have hg:=lowest_pos x hp
 have h1:=Nat.mod_eq_zero_of_dvd (Nat.gcd_dvd_left x y)
 have h2:=Nat.mod_eq_zero_of_dvd (Nat.gcd_dvd_right x y)
 have hlg:=len_mono (Nat.le_of_dvd hp (Nat.gcd_dvd_right x y))
 have HE:=Hd9 (fun (z : Nat) u v W (h1 : IsN W u z) (h2 : IsN W v (Nat.gcd x y)) (hz : len z ≤ 274877906944) (h3 : z % Nat.gcd x y = 0) => by
  have:=exact_any z (Nat.gcd x y) u v W h1 h2 hz (by omega)
  rwa [exQ_yes hg h3, exB_yes hg h3] at this)
 have HX:=Hd9 (fun v W (h3 : IsN W v (Nat.gcd x y)) (hW : Below w.heap.size w W) => HE.out x va v W (ha.mono hW) h3 hx h1)
 have HY:=Hd9 (fun v W (h3 : IsN W v (Nat.gcd x y)) (hW : Below w.heap.size w W) => HE.out y vb v W (hb.mono hW) h3 hy h2)
 obtain ⟨A, n, c, rfl, _⟩:=ha
 obtain ⟨B, m, d, rfl, _⟩:=hb
 clear hg h1 h2 hlg HE
 generalize Nat.gcd x y = g at *
 generalize blen y = bl at *
 go_enter Tryz.func247, Tryz.ntmps247
 go_wp2_with fail
 refine HB.out.mono ?_
 rintro e w' ⟨rfl, rfl⟩
 go_wp2_with fail
 refine HG.out.mono ?_
 rintro e w1 ⟨v1, rfl, o1⟩
 have H1:=Hd9 (HX.out v1 w1 o1.isN o1.below)
 go_wp2_with fail
 refine H1.out.mono ?_
 rintro e w2 ⟨v2, rfl, o2⟩
 have hb2:=o1.below.trans (o2.below.mono o1.below.size)
 have H2:=Hd9 (HY.out v1 w2 (o1.isN.mono o2.below) hb2)
 have ow2:=o2.own.base_le o1.below.size
 clear o1 o2 H1
 go_wp2_with fail
 refine H2.out.mono ?_
 rintro e w3 ⟨v3, rfl, o3⟩
 go_wp2_with fail
 go_ret3
 exact ⟨_, _, rfl, ow2.below o3.below, o3.own.base_le hb2.size, hb2.trans (o3.below.mono hb2.size)⟩

end Go.Proofs.YtiddbhhhmeopeaaGreatDoor


/- Walks: the reference's root, Sqrt, Square, Gcd. -/
namespace Go.Proofs.YtiddbhhhmeopeaaGreatDoor
set_option maxHeartbeats 64000000
open Go.RowKit
set_option linter.unusedVariables false
set_option linter.unusedSimpArgs false
set_option maxRecDepth 100000

end Go.Proofs.YtiddbhhhmeopeaaGreatDoor

