/- The reference's Cut. -/
import Derived.Test.YtiddbhhhmeopeaaGreatDoorBaseMW9
import Derived.Test.YtiddbhhhmeopeaaGreatDoorRefDivModW9
import Derived.Test.YtiddbhhhmeopeaaGreatDoorBaseEW9
import Derived.Test.YtiddbhhhmeopeaaGreatDoorBaseVW9
import Derived.Deep.RegionHeld3
import Derived.Deep.DrawnRows
import Derived.Deep.Cut
import Derived.Deep.CutRange
namespace Go.Proofs.YtiddbhhhmeopeaaGreatDoor
set_option maxHeartbeats 64000000
open Go.RowKit
set_option linter.unusedVariables false
set_option linter.unusedSimpArgs false
set_option maxRecDepth 100000
attribute [local go_sem ↓] Go.wp_at_zero Go.wp_at_succ

theorem zl_cut (a:Int) (d:Nat) (hd:0 < d) (p:Int):zl (cutQ (Rat.divInt a d) p)≤zl a + (p.toNat / 32 + 1):=by
 rw [cut_eq a d hd p]
 refine Nat.le_trans ?_ (zl_two a p.toNat)
 unfold zl
 exact len_mono (Int.natAbs_ediv_le_natAbs _ _)
theorem pow_of_tz {d:Nat} (hd:0 < d) (h:tz d = blen d - 1):d = 2 ^ (blen d - 1):=by
 obtain ⟨k,hk⟩:=tz_form hd
 have hb:=lt_two_pow_blen d
 have hp:=blen_pos hd
 obtain ⟨n,hn⟩:∃ n,blen d = n + 1:=⟨blen d - 1,by omega⟩
 rw [hn] at h hb ⊢
 rw [Nat.add_sub_cancel] at h ⊢
 rw [h] at hk
 rw [hk,Nat.pow_succ] at hb
 have h2:0 < 2 ^ n:=Nat.pow_pos (by omega)
 have h3:2 * k + 1 < 2:=Nat.lt_of_mul_lt_mul_left hb
 rw [hk,show 2 * k + 1 = 1 by omega,Nat.mul_one]
theorem cut_shl (a:Int) (n k:Nat):cutQ (Rat.divInt a ((2 ^ n:Nat):Int)) ((n:Int) + (k:Int)) = a * 2 ^ k:=by
 rw [cut_eq a _ (two_pos8 n),cast2,show ((n:Int) + (k:Int)).toNat = k + n by omega,show (-((n:Int) + (k:Int))).toNat = 0 by omega,Int.pow_zero,Int.mul_one,Int.pow_add,← Int.mul_assoc]
 exact Int.mul_ediv_cancel _ (pow2_ne n)
theorem cut_shr (a:Int) (n:Nat) (p:Int) (h:p≤(n:Int)):cutQ (Rat.divInt a ((2 ^ n:Nat):Int)) p = a / 2 ^ ((n:Int) - p).toNat:=by
 rw [cut_eq a _ (two_pos8 n),cast2]
 by_cases h0:0≤p
 ·rw [show (-p).toNat = 0 by omega,Int.pow_zero,Int.mul_one,show (n:Nat) = ((n:Int) - p).toNat + p.toNat by omega,Int.pow_add,show ((((((n:Int) - p).toNat + p.toNat:Nat)):Int) - p).toNat = ((n:Int) - p).toNat by omega]
  exact Int.mul_ediv_mul_of_pos_left _ _ (pow2_pos _)
 ·rw [show p.toNat = 0 by omega,Int.pow_zero,Int.mul_one,← Int.pow_add,show n + (-p).toNat = ((n:Int) - p).toNat by omega]
theorem Lq.pull4 {w0 w:World} {ns:List (Value × Nat)} {zs:List (Value × Int)} {qs:List (Value × Int × Nat)} {bs:List (Nat × TypeId × Array Value)} {p q r s t:Nat × TypeId × Array Value} (h:Lq w0 w ns zs qs (p :: q :: r :: s :: t :: bs)):Lq w0 w ns zs qs (t :: p :: q :: r :: s :: bs):=
 ⟨h.below,h.ns,h.zs,h.qs,fun u hu => h.bs u (by simp only [List.mem_cons] at hu ⊢;rcases hu with h | h | h | h | h | h <;> simp [h])⟩
theorem cut_up (a:Int) (d:Nat) (hd:0 < d) (p:Nat):cutQ (Rat.divInt a d) (p:Int) = a * 2 ^ p / (d:Int):=by
 rw [cut_eq a d hd,show ((p:Int)).toNat = p by omega,show (-(p:Int)).toNat = 0 by omega,Int.pow_zero,Int.mul_one]
theorem cut_down (a:Int) (d:Nat) (hd:0 < d) (p:Nat):cutQ (Rat.divInt a d) (-(p:Int)) = a / ((d:Int) * 2 ^ p):=by
 rw [cut_eq a d hd,show (-(p:Int)).toNat = 0 by omega,show (-(-(p:Int))).toNat = p by omega,Int.pow_zero,Int.mul_one]

theorem rcut_any (a:Int) (d:Nat) (p:Int) (vx:Value) (w:World) (hx:IsP w vx a d) (la:zl a≤20000) (ld:len d≤20000) (hd:0 < d) (hp1:-20000≤p) (hp2:p≤20000) :
  Calls Tryz.prog 109 #[vx,.int .i64 p] w (RetZ w (cutQ (Rat.divInt a d) p)):=by
 obtain ⟨A,c,B,g,rfl,hz,_,hn⟩:=hx.form
 have L0:=((Lq.mk0 w).z hz).n hn
 have HB:=Hd9 (fun v W h => rbits_any d v W h (by omega))
 have HZ:=Hd9 (fun v W h => rzeros_any d v W h (by omega))
 have hpb:=blen_pos hd
 have hbl:blen d≤640000:=Nat.le_trans (blen_le_len d) (by omega)
 have hpw:=pow_of_tz hd
 have hzc:=zl_cut a d hd p
 obtain ⟨n,hn1⟩:∃ n,blen d = n + 1:=⟨blen d - 1,by omega⟩
 obtain ⟨z,hz1⟩:=nm9 (tz d)
 rw [hn1,hz1,Nat.add_sub_cancel] at hpw
 rw [hz1] at HZ
 obtain ⟨bl,hb⟩:=nm9 (blen d)
 rw [hb] at HB hn1 hpb hbl
 have hw0:(bl:Int) - 1 = (n:Int):=by omega
 have hw:IntKind.i64.wrap ((bl:Int) - 1) = (n:Int):=by rw [IntKind.wrap_i64];omega
 clear hb hz1 hx
 by_cases q1:z = n
 ·subst q1
  have hd2:=hpw rfl
  have b1:(((z:Nat):Int) == (z:Int)) = true:=by simp
  by_cases q2:(z:Int)≤p
  ·obtain ⟨k,hk⟩:∃ k:Nat,p = (z:Int) + (k:Int):=⟨(p - (z:Int)).toNat,by omega⟩
   have hwk:IntKind.i64.wrap (p - (z:Int)) = (k:Int):=by rw [IntKind.wrap_i64];omega
   have b2:decide ((z:Int)≤p) = true:=decide_eq_true q2
   have H1:=Hd9 (fun v W h => rzshl_any a v W h (by omega) k (by omega))
   have e1:cutQ (Rat.divInt a (d:Int)) p = a * 2 ^ k:=by rw [hd2,hk];exact cut_shl a z k
   rw [e1]
   generalize a * 2 ^ k = C at *
   clear hk hpw hd2 hzc la hn hz e1
   go_enter Tryz.func109,Tryz.ntmps109
   go_wp2_with fail
   have L:=((L0.varQ (w.heap.size) (by simp) (ng a) A B (zl a) c (len d) g).varZ (w.heap.size + 1) (by simp) false none 0 0)
   obtain ⟨c00,c01⟩:=L.b0.a2
   obtain ⟨f00,f01⟩:=L.b0.f2
   obtain ⟨c10,c11,c12⟩:=L.tl.b0.a3
   obtain ⟨f10,f11,f12⟩:=L.tl.b0.f3
   (try go_wp2_with fail)
   refine (HB.out _ _ (L.getN (by simp))).mono ?_
   rintro e9 w' ⟨rfl,rfl⟩
   go_wp2_with fail
   refine (HZ.out _ _ (L.getN (by simp))).mono ?_
   rintro e9 w' ⟨rfl,rfl⟩
   (try go_wp2_with fail)
   refine (H1.out _ _ (L.getZ (by simp))).mono ?_
   rintro e w1 ⟨v1,rfl,iz,be⟩
   clear c00 f00 c01 f01 c10 f10 c11 f11 c12 f12
   replace L:=(L.step be).z iz
   obtain ⟨A9,c9,rfl,_⟩:=iz.form
   clear be iz
   obtain ⟨c00,c01⟩:=L.b0.a2
   obtain ⟨f00,f01⟩:=L.b0.f2
   obtain ⟨c10,c11,c12⟩:=L.tl.b0.a3
   obtain ⟨f10,f11,f12⟩:=L.tl.b0.f3
   (try go_wp2_with fail)
   have LP:=L.putZ (by omega) (by first | (simp;done) | (simp;omega)) (ng C) A9 (zl C) c9
   obtain ⟨k0,k1⟩:=LP.b0.a2
   unfold put2 at k0 k1
   exact bodyPost_ret (v:=.agg #[.bool (ng C),.slice A9 (zl C) c9]) (by simp [results,Tryz.results109,go_sem,k0,k1]) rfl ⟨_,rfl,LP.hz,LP.below⟩
  ·obtain ⟨k,hk⟩:∃ k:Nat,(k:Int) = (z:Int) - p:=⟨((z:Int) - p).toNat,by omega⟩
   have hwk:IntKind.i64.wrap ((z:Int) - p) = (k:Int):=by rw [IntKind.wrap_i64];omega
   have b2:decide ((z:Int)≤p) = false:=decide_eq_false q2
   have H1:=Hd9 (fun v W h => rzshr_any a v W h (by omega) k (by omega))
   have e1:cutQ (Rat.divInt a (d:Int)) p = a / 2 ^ k:=by
    have:=cut_shr a z p (by omega)
    rw [show ((z:Int) - p).toNat = k by omega] at this
    rw [hd2];exact this
   rw [e1]
   generalize a / 2 ^ k = C at *
   clear hk hpw hd2 hzc la hn hz e1
   go_enter Tryz.func109,Tryz.ntmps109
   go_wp2_with fail
   have L:=((L0.varQ (w.heap.size) (by simp) (ng a) A B (zl a) c (len d) g).varZ (w.heap.size + 1) (by simp) false none 0 0)
   obtain ⟨c00,c01⟩:=L.b0.a2
   obtain ⟨f00,f01⟩:=L.b0.f2
   obtain ⟨c10,c11,c12⟩:=L.tl.b0.a3
   obtain ⟨f10,f11,f12⟩:=L.tl.b0.f3
   (try go_wp2_with fail)
   refine (HB.out _ _ (L.getN (by simp))).mono ?_
   rintro e9 w' ⟨rfl,rfl⟩
   go_wp2_with fail
   refine (HZ.out _ _ (L.getN (by simp))).mono ?_
   rintro e9 w' ⟨rfl,rfl⟩
   (try go_wp2_with fail)
   refine (H1.out _ _ (L.getZ (by simp))).mono ?_
   rintro e w1 ⟨v1,rfl,iz,be⟩
   clear c00 f00 c01 f01 c10 f10 c11 f11 c12 f12
   replace L:=(L.step be).z iz
   obtain ⟨A9,c9,rfl,_⟩:=iz.form
   clear be iz
   obtain ⟨c00,c01⟩:=L.b0.a2
   obtain ⟨f00,f01⟩:=L.b0.f2
   obtain ⟨c10,c11,c12⟩:=L.tl.b0.a3
   obtain ⟨f10,f11,f12⟩:=L.tl.b0.f3
   (try go_wp2_with fail)
   have LP:=L.putZ (by omega) (by first | (simp;done) | (simp;omega)) (ng C) A9 (zl C) c9
   obtain ⟨k0,k1⟩:=LP.b0.a2
   unfold put2 at k0 k1
   exact bodyPost_ret (v:=.agg #[.bool (ng C),.slice A9 (zl C) c9]) (by simp [results,Tryz.results109,go_sem,k0,k1]) rfl ⟨_,rfl,LP.hz,LP.below⟩
 ·have b1:(((z:Nat):Int) == (n:Int)) = false:=by rw [beq_eq_false_iff_ne];omega
  have hld:zl (d:Int)≤20000:=ld
  have hdp:(0:Int) < (d:Int):=by omega
  have HN0:=fun v W h => rznatN_any false d v W h (by omega)
  rw [show sg false d = (d:Int) from rfl] at HN0
  have HN:=Hd9 HN0
  clear HN0 hpw hzc
  obtain ⟨C,hC⟩:=nm9 (cutQ (Rat.divInt a (d:Int)) p)
  rw [hC]
  have GN:=Hd9 (fun Z (hZ:Below w.heap.size w Z) => hn.mono hZ)
  have GZ0:=Hd9 (fun Z (hZ:Below w.heap.size w Z) => hz.mono hZ)
  clear hn hz
  go_enter Tryz.func109,Tryz.ntmps109
  go_wp2_with fail
  have L:=((L0.varQ (w.heap.size) (by simp) (ng a) A B (zl a) c (len d) g).varZ (w.heap.size + 1) (by simp) false none 0 0)
  obtain ⟨c00,c01⟩:=L.b0.a2
  obtain ⟨f00,f01⟩:=L.b0.f2
  obtain ⟨c10,c11,c12⟩:=L.tl.b0.a3
  obtain ⟨f10,f11,f12⟩:=L.tl.b0.f3
  (try go_wp2_with fail)
  refine (HB.out _ _ (L.getN (by simp))).mono ?_
  rintro e9 w' ⟨rfl,rfl⟩
  go_wp2_with fail
  refine (HZ.out _ _ (L.getN (by simp))).mono ?_
  rintro e9 w' ⟨rfl,rfl⟩
  (try go_wp2_with fail)
  clear c00 f00 c01 f01 c10 f10 c11 f11 c12 f12
  obtain ⟨V,hV⟩:=nm9 ((w.alloc (.cells #[.bool (ng a),.slice A (zl a) c,.slice B (len d) g] 65)).alloc (.cells #[.bool false,.slice none 0 0] 24))
  rw [hV] at L ⊢
  clear hV
  have Q0:=Hd9 (fun Z (hZ:Below V.heap.size V Z) => (L.tl.b0.mono hZ).c30)
  have Q1:=Hd9 (fun Z (hZ:Below V.heap.size V Z) => (L.tl.b0.mono hZ).c31)
  have Q2:=Hd9 (fun Z (hZ:Below V.heap.size V Z) => (L.tl.b0.mono hZ).c32)
  have hgx0:=L.tl.b0.lt
  have GX:=Hd9 (fun Z (hZ:Below V.heap.size V Z) => GN.out Z (L.below.trans (hZ.mono L.below.size)))
  have D0:Dq V V [] [(.agg #[.bool (ng a),.slice A (zl a) c],a)] [] []:=⟨(Lq.mk0 V).z (GZ0.out V L.below),List.nodup_nil,fun p hp => by cases hp⟩
  have LL:=Hd9 L
  clear L GN GZ0
  have D:=D0.drew
  obtain ⟨m,hmw⟩:=nm9 (V.heap.size)
  have hz0:m≤V.heap.size:=by omega
  have hgx:w.heap.size < m:=by omega
  have hmd:V.drew.heap.size = m:=hmw
  go_cut [6,7] from 35 to 40 (fun s3 s4 wx => Made2Z V a (d:Int) s3 s4 wx)
  case first =>
   go_region_held3 (fun w' => w'.cell? ⟨w.heap.size,0,none⟩ = some (.bool (ng a))∧w'.cell? ⟨w.heap.size,1,none⟩ = some (.slice A (zl a) c)∧w'.cell? ⟨w.heap.size,2,none⟩ = some (.slice B (len d) g)) (((try dsimp only);refine ⟨?_,?_,?_⟩ <;> (repeat (first | (with_reducible exact Q0.out _ D.lq.below) | (with_reducible exact Q0.out _ D0.lq.below) | (with_reducible exact Q1.out _ D.lq.below) | (with_reducible exact Q1.out _ D0.lq.below) | (with_reducible exact Q2.out _ D.lq.below) | (with_reducible exact Q2.out _ D0.lq.below) | (with_reducible refine c_alloc _ ?_) | (with_reducible refine c_drew ?_) | (with_reducible refine c_set ?_ hgx ?_) | omega)))) (first | (go_at_call 66;(with_reducible refine (HN.out _ _ ?_).mono ?_);(· (first | (with_reducible exact GX.out _ D.lq.below) | (with_reducible exact GX.out _ (D.boxZ false none 0 0).lq.below) | (with_reducible exact GX.out _ (D.boxZ2 false none 0 0 false none 0 0).lq.below) | (with_reducible exact GX.out _ (D0.boxZ false none 0 0).drew.lq.below) | (with_reducible exact GX.out _ (D0.boxZ2 false none 0 0 false none 0 0).drew.lq.below)));rintro e9 wh ⟨vh,rfl,iz,be⟩;(first | (replace D:=D.step be) | (replace D:=(D.boxMZ hmd false none 0 0).step be) | (replace D:=(D.boxMZ2 hmd false none 0 0 false none 0 0).step be) | (replace D:=(D.boxZ false none 0 0).step be) | (replace D:=(D.boxZ2 false none 0 0 false none 0 0).step be));have hz:=be.size;(try simp at hz);replace D:=D.z iz;obtain ⟨A8,c8,rfl,_⟩:=iz.form;clear iz;(try (obtain ⟨q000,q001⟩:=D.lq.b0.a2;obtain ⟨q002,q003⟩:=D.lq.b0.f2));(try (have q010:=(D.alloc (.cells #[.bool false,.slice none 0 0] 24)).lq.b0.c20;have q011:=(D.alloc (.cells #[.bool false,.slice none 0 0] 24)).lq.b0.c21;have q012:=(D.alloc (.cells #[.bool false,.slice none 0 0] 24)).lq.b0.fr 0;have q013:=(D.alloc (.cells #[.bool false,.slice none 0 0] 24)).lq.b0.fr 1));(try (have q020:=((D.alloc (.cells #[.bool false,.slice none 0 0] 24)).alloc (.cells #[.bool false,.slice none 0 0] 24)).lq.b0.c20;have q021:=((D.alloc (.cells #[.bool false,.slice none 0 0] 24)).alloc (.cells #[.bool false,.slice none 0 0] 24)).lq.b0.c21;have q022:=((D.alloc (.cells #[.bool false,.slice none 0 0] 24)).alloc (.cells #[.bool false,.slice none 0 0] 24)).lq.b0.fr 0;have q023:=((D.alloc (.cells #[.bool false,.slice none 0 0] 24)).alloc (.cells #[.bool false,.slice none 0 0] 24)).lq.b0.fr 1));(try (obtain ⟨q100,q101⟩:=D.lq.tl.b0.a2;obtain ⟨q102,q103⟩:=D.lq.tl.b0.f2));(try (have q110:=(D.alloc (.cells #[.bool false,.slice none 0 0] 24)).lq.tl.b0.c20;have q111:=(D.alloc (.cells #[.bool false,.slice none 0 0] 24)).lq.tl.b0.c21;have q112:=(D.alloc (.cells #[.bool false,.slice none 0 0] 24)).lq.tl.b0.fr 0;have q113:=(D.alloc (.cells #[.bool false,.slice none 0 0] 24)).lq.tl.b0.fr 1));(try (have q120:=((D.alloc (.cells #[.bool false,.slice none 0 0] 24)).alloc (.cells #[.bool false,.slice none 0 0] 24)).lq.tl.b0.c20;have q121:=((D.alloc (.cells #[.bool false,.slice none 0 0] 24)).alloc (.cells #[.bool false,.slice none 0 0] 24)).lq.tl.b0.c21;have q122:=((D.alloc (.cells #[.bool false,.slice none 0 0] 24)).alloc (.cells #[.bool false,.slice none 0 0] 24)).lq.tl.b0.fr 0;have q123:=((D.alloc (.cells #[.bool false,.slice none 0 0] 24)).alloc (.cells #[.bool false,.slice none 0 0] 24)).lq.tl.b0.fr 1));(try obtain ⟨na,nb,nc,nd,nl⟩:=D.n0);(try obtain ⟨ne,nf,ng',nh,nm⟩:=D.n1);(try obtain ⟨ni,nj⟩:=D.n01)))
   all_goals
    go_wp2_with fail
    go_meet
    first
    | ((with_reducible refine made2z_a D ?_ ?_) <;> (repeat (first | (with_reducible exact mS) | apply mT)))
    | ((with_reducible refine made2z_b D ?_ ?_) <;> (repeat (first | (with_reducible exact mS) | apply mT)))
    | ((with_reducible refine made2z_c D ?_ ?_) <;> (repeat (first | (with_reducible exact mS) | apply mT)))
    | ((with_reducible refine made2z_d D ?_ ?_) <;> (repeat (first | (with_reducible exact mS) | apply mT)))
    | ((with_reducible refine made2z_e D ?_ ?_) <;> (repeat (first | (with_reducible exact mS) | apply mT)))
    | ((with_reducible refine made2z_f D ?_ ?_) <;> (repeat (first | (with_reducible exact mS) | apply mT)))
  case rest =>
   obtain ⟨g1,g2,A1,c1,A2,c2,rfl,rfl,hg1,hg2,hg3,bw,hb1,hb2,hz1,hz2⟩:=hcut
   have hg4:=LL.out.b0.lt
   have L:=((((LL.out.step bw).z hz2).z hz1).b hb2).b hb1
   clear D D0 hmd hz0 hgx Q0 Q1 Q2 GX LL HN hb1 hb2 hz1 hz2 bw
   have e1:w.heap.size≤g1:=by omega
   have e2:w.heap.size≤g2:=by omega
   have e3:w.heap.size ≠ g1:=by omega
   have e4:w.heap.size ≠ g2:=by omega
   have e5:w.heap.size + 1 ≠ g1:=by omega
   have e6:w.heap.size + 1 ≠ g2:=by omega
   generalize wc = wd at *
   by_cases q2:0≤p
   ·obtain ⟨k,rfl⟩:∃ k:Nat,p = (k:Int):=⟨p.toNat,by omega⟩
    have b2:decide (0≤(k:Int)) = true:=decide_eq_true (by omega)
    rw [cut_up a d hd k] at hC
    have lz:=zl_two a k
    have H1:=Hd9 (fun v W h => rzshl_any a v W h (by omega) k (by omega))
    obtain ⟨X,hX⟩:=nm9 (a * 2 ^ k)
    rw [hX] at H1 lz hC
    have h2:=fun v u W k1 k2 => rzdivmod_pos X (d:Int) v u W k1 k2 (by omega) (by omega) hdp
    rw [hC] at h2
    generalize X % (d:Int) = R at *
    have H2:=Hd9 h2
    clear h2 hX hC lz
    obtain ⟨c00,c01⟩:=L.b0.a2
    obtain ⟨f00,f01⟩:=L.b0.f2
    obtain ⟨c10,c11⟩:=L.tl.b0.a2
    obtain ⟨f10,f11⟩:=L.tl.b0.f2
    obtain ⟨c20,c21⟩:=L.tl.tl.b0.a2
    obtain ⟨c30,c31,c32⟩:=L.tl.tl.tl.b0.a3
    (try go_wp2_with fail)
    refine (H1.out _ _ (L.getZ (v:=.agg #[.bool (ng a),.slice A1 (zl a) c1]) (by simp))).mono ?_
    rintro e w6 ⟨v1,rfl,iz,be⟩
    clear c00 f00 c01 f01 c10 f10 c11 f11 c20 c21 c30 c31 c32
    replace L:=(L.step be).z iz
    obtain ⟨A9,c9,rfl,_⟩:=iz.form
    clear be iz
    obtain ⟨c00,c01⟩:=L.b0.a2
    obtain ⟨f00,f01⟩:=L.b0.f2
    obtain ⟨c10,c11⟩:=L.tl.b0.a2
    obtain ⟨f10,f11⟩:=L.tl.b0.f2
    obtain ⟨c20,c21⟩:=L.tl.tl.b0.a2
    obtain ⟨c30,c31,c32⟩:=L.tl.tl.tl.b0.a3
    (try go_wp2_with fail)
    clear c00 f00 c01 f01 c10 f10 c11 f11 c20 c21 c30 c31 c32
    replace L:=L.putZ e1 (by simp [e3,e4,e5,e6,hg3,Ne.symm hg3]) (ng X) A9 (zl X) c9
    unfold put2 at L
    obtain ⟨c00,c01⟩:=L.b0.a2
    obtain ⟨f00,f01⟩:=L.b0.f2
    obtain ⟨c10,c11⟩:=L.tl.b0.a2
    obtain ⟨f10,f11⟩:=L.tl.b0.f2
    obtain ⟨c20,c21⟩:=L.tl.tl.b0.a2
    obtain ⟨c30,c31,c32⟩:=L.tl.tl.tl.b0.a3
    (try go_wp2_with fail)
    refine (H2.out _ _ _ (L.getZ (v:=.agg #[.bool (ng X),.slice A9 (zl X) c9]) (by simp)) (L.getZ (v:=.agg #[.bool (ng (d:Int)),.slice A2 (zl (d:Int)) c2]) (by simp))).mono ?_
    rintro e w7 ⟨v1,v2,rfl,i1,i2,be⟩
    clear c00 f00 c01 f01 c10 f10 c11 f11 c20 c21 c30 c31 c32
    replace L:=((L.step be).z i2).z i1
    obtain ⟨A7,c7,rfl,_⟩:=i1.form
    obtain ⟨A6,c6,rfl,_⟩:=i2.form
    clear be i1 i2
    have hlt:=L.tl.tl.b0.lt
    obtain ⟨c00,c01⟩:=L.b0.a2
    obtain ⟨f00,f01⟩:=L.b0.f2
    obtain ⟨c10,c11⟩:=L.tl.b0.a2
    obtain ⟨f10,f11⟩:=L.tl.b0.f2
    obtain ⟨c20,c21⟩:=L.tl.tl.b0.a2
    obtain ⟨f20,f21⟩:=L.tl.tl.b0.f2
    obtain ⟨c30,c31,c32⟩:=L.tl.tl.tl.b0.a3
    replace L:=(L.varZ w7.heap.size rfl (ng C) A7 (zl C) c7).varZ (w7.heap.size + 1) (by simp) (ng R) A6 (zl R) c6
    obtain ⟨y0,y1⟩:=L.tl.b0.a2
    obtain ⟨y2,y3⟩:=L.tl.tl.tl.tl.b0.a2
    obtain ⟨y4,y5⟩:=L.tl.tl.tl.tl.b0.f2
    have d1:w.heap.size + 1 ≠ w7.heap.size:=by omega
    have d2:w.heap.size + 1 ≠ w7.heap.size + 1:=by omega
    have d3:w.heap.size ≠ w7.heap.size:=by omega
    have d4:w.heap.size ≠ w7.heap.size + 1:=by omega
    go_wp2_with fail
    have LP:=L.pull4.putZ (by omega) (by simp [e3,e4,e5,e6,d1,d2,Ne.symm e5,Ne.symm e6,Ne.symm d1,Ne.symm d2,Ne.symm d3]) (ng C) A7 (zl C) c7
    obtain ⟨k0,k1⟩:=LP.b0.a2
    unfold put2 at k0 k1
    exact bodyPost_ret (v:=.agg #[.bool (ng C),.slice A7 (zl C) c7]) (by simp [results,Tryz.results109,go_sem,k0,k1]) rfl ⟨_,rfl,LP.getZ (by simp),LP.below⟩
   ·obtain ⟨k,hk⟩:∃ k:Nat,p = -(k:Int):=⟨(-p).toNat,by omega⟩
    have b2:decide (0≤p) = false:=decide_eq_false q2
    have hwk:IntKind.i64.wrap (-p) = (k:Int):=by rw [IntKind.wrap_i64];omega
    rw [hk,cut_down a d hd k] at hC
    have lz:=zl_two (d:Int) k
    have H1:=Hd9 (fun v W h => rzshl_any (d:Int) v W h (by omega) k (by omega))
    have hpos:(0:Int) < (d:Int) * 2 ^ k:=Int.mul_pos hdp (pow2_pos k)
    obtain ⟨X,hX⟩:=nm9 ((d:Int) * 2 ^ k)
    rw [hX] at H1 lz hC hpos
    have h2:=fun v u W k1 k2 => rzdivmod_pos a X v u W k1 k2 (by omega) (by omega) hpos
    rw [hC] at h2
    generalize a % X = R at *
    have H2:=Hd9 h2
    clear h2 hX hC lz hk hpos
    obtain ⟨c00,c01⟩:=L.b0.a2
    obtain ⟨f00,f01⟩:=L.b0.f2
    obtain ⟨c10,c11⟩:=L.tl.b0.a2
    obtain ⟨f10,f11⟩:=L.tl.b0.f2
    obtain ⟨c20,c21⟩:=L.tl.tl.b0.a2
    obtain ⟨c30,c31,c32⟩:=L.tl.tl.tl.b0.a3
    (try go_wp2_with fail)
    refine (H1.out _ _ (L.getZ (v:=.agg #[.bool (ng (d:Int)),.slice A2 (zl (d:Int)) c2]) (by simp))).mono ?_
    rintro e w6 ⟨v1,rfl,iz,be⟩
    clear c00 f00 c01 f01 c10 f10 c11 f11 c20 c21 c30 c31 c32
    replace L:=(L.step be).z iz
    obtain ⟨A9,c9,rfl,_⟩:=iz.form
    clear be iz
    obtain ⟨c00,c01⟩:=L.b0.a2
    obtain ⟨f00,f01⟩:=L.b0.f2
    obtain ⟨c10,c11⟩:=L.tl.b0.a2
    obtain ⟨f10,f11⟩:=L.tl.b0.f2
    obtain ⟨c20,c21⟩:=L.tl.tl.b0.a2
    obtain ⟨c30,c31,c32⟩:=L.tl.tl.tl.b0.a3
    (try go_wp2_with fail)
    clear c00 f00 c01 f01 c10 f10 c11 f11 c20 c21 c30 c31 c32
    replace L:=L.swap.putZ e2 (by simp [e3,e4,e5,e6,hg3,Ne.symm hg3]) (ng X) A9 (zl X) c9
    unfold put2 at L
    replace L:=L.swap
    obtain ⟨c00,c01⟩:=L.b0.a2
    obtain ⟨f00,f01⟩:=L.b0.f2
    obtain ⟨c10,c11⟩:=L.tl.b0.a2
    obtain ⟨f10,f11⟩:=L.tl.b0.f2
    obtain ⟨c20,c21⟩:=L.tl.tl.b0.a2
    obtain ⟨c30,c31,c32⟩:=L.tl.tl.tl.b0.a3
    (try go_wp2_with fail)
    refine (H2.out _ _ _ (L.getZ (v:=.agg #[.bool (ng a),.slice A1 (zl a) c1]) (by simp)) (L.getZ (v:=.agg #[.bool (ng X),.slice A9 (zl X) c9]) (by simp))).mono ?_
    rintro e w7 ⟨v1,v2,rfl,i1,i2,be⟩
    clear c00 f00 c01 f01 c10 f10 c11 f11 c20 c21 c30 c31 c32
    replace L:=((L.step be).z i2).z i1
    obtain ⟨A7,c7,rfl,_⟩:=i1.form
    obtain ⟨A6,c6,rfl,_⟩:=i2.form
    clear be i1 i2
    have hlt:=L.tl.tl.b0.lt
    obtain ⟨c00,c01⟩:=L.b0.a2
    obtain ⟨f00,f01⟩:=L.b0.f2
    obtain ⟨c10,c11⟩:=L.tl.b0.a2
    obtain ⟨f10,f11⟩:=L.tl.b0.f2
    obtain ⟨c20,c21⟩:=L.tl.tl.b0.a2
    obtain ⟨f20,f21⟩:=L.tl.tl.b0.f2
    obtain ⟨c30,c31,c32⟩:=L.tl.tl.tl.b0.a3
    replace L:=(L.varZ w7.heap.size rfl (ng C) A7 (zl C) c7).varZ (w7.heap.size + 1) (by simp) (ng R) A6 (zl R) c6
    obtain ⟨y0,y1⟩:=L.tl.b0.a2
    obtain ⟨y2,y3⟩:=L.tl.tl.tl.tl.b0.a2
    obtain ⟨y4,y5⟩:=L.tl.tl.tl.tl.b0.f2
    have d1:w.heap.size + 1 ≠ w7.heap.size:=by omega
    have d2:w.heap.size + 1 ≠ w7.heap.size + 1:=by omega
    have d3:w.heap.size ≠ w7.heap.size:=by omega
    have d4:w.heap.size ≠ w7.heap.size + 1:=by omega
    go_wp2_with fail
    have LP:=L.pull4.putZ (by omega) (by simp [e3,e4,e5,e6,d1,d2,Ne.symm e5,Ne.symm e6,Ne.symm d1,Ne.symm d2,Ne.symm d3]) (ng C) A7 (zl C) c7
    obtain ⟨k0,k1⟩:=LP.b0.a2
    unfold put2 at k0 k1
    exact bodyPost_ret (v:=.agg #[.bool (ng C),.slice A7 (zl C) c7]) (by simp [results,Tryz.results109,go_sem,k0,k1]) rfl ⟨_,rfl,LP.getZ (by simp),LP.below⟩

end Go.Proofs.YtiddbhhhmeopeaaGreatDoor
