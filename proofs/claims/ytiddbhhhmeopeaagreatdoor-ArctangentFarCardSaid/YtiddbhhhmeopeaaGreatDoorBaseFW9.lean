/- Base texts, joined: RefRatA, RefRatB, RefRatC, MillRat. -/
import Derived.Test.YtiddbhhhmeopeaaGreatDoorBaseDW9
import Derived.Test.YtiddbhhhmeopeaaGreatDoorBaseSW9
import Derived.Test.YtiddbhhhmeopeaaGreatDoorBaseJW9
import Derived.Deep.RegionHeld3
import Derived.Deep.DrawnRows
import Derived.Test.YtiddbhhhmeopeaaGreatDoorBaseRW9
import Derived.Deep.Cut
import Derived.Deep.CutRange
/- The reference's Lowest, Make, of, den, Of, Sign. -/
namespace Go.Proofs.YtiddbhhhmeopeaaGreatDoor
set_option maxHeartbeats 64000000
open Go.RowKit
set_option linter.unusedVariables false
set_option linter.unusedSimpArgs false
set_option maxRecDepth 100000
attribute [local go_sem ↓] Go.wp_at_zero Go.wp_at_succ
def Ret2N (w:World) (x y:Nat) (e:Ending) (w':World):Prop:=∃ v u,e = .returned (.tuple #[v,u,.bool true])∧IsN w' v x∧IsN w' u y∧Below w.heap.size w w'
theorem len_div_le (x g:Nat):len (x / g)≤len x:=len_mono (Nat.div_le_self _ _)
theorem rlowest_any (x y:Nat) (va vb:Value) (w:World) (ha:IsN w va x) (hb:IsN w vb y) (hx:len x≤100000000) (hy:len y≤100000000) (h0:0 < y) :
  Calls Tryz.prog 212 #[va,vb] w (Ret2N w (x / Nat.gcd x y) (y / Nat.gcd x y)):=by
 have hg0:0 < Nat.gcd x y:=Nat.gcd_pos_of_pos_right x h0
 have hgl:len (Nat.gcd x y)≤100000000:=Nat.le_trans (len_mono (Nat.gcd_le_right x h0)) hy
 have HG:=Hd9 (fun W (hW:Below w.heap.size w W) => rgcd_any x y va vb W (ha.mono hW) (hb.mono hW) (by omega) (by omega))
 obtain ⟨g,hg⟩:=nm9 (Nat.gcd x y)
 rw [hg] at hg0 hgl HG ⊢
 have H1:=Hd9 (fun W vg (hW:Below w.heap.size w W) h => rdiv_any x g va vg W (ha.mono hW) h (by omega) (by omega) hg0)
 have H2:=Hd9 (fun W vg (hW:Below w.heap.size w W) h => rdiv_any y g vb vg W (hb.mono hW) h (by omega) (by omega) hg0)
 have hlp:=len_pos h0
 obtain ⟨k,hk⟩:∃ k,len y = k + 1:=⟨len y - 1,by omega⟩
 obtain ⟨A,c,rfl⟩:=ha.form
 obtain ⟨B,d,rfl⟩:=hb.form
 rw [hk] at HG H2 ⊢
 have hkz:((k:Int) + 1 == 0) = false:=by simp;omega
 clear ha hb hg hlp hk h0 hx hy
 go_enter Tryz.func212,Tryz.ntmps212
 go_wp2_with fail
 refine (HG.out _ (Below.refl _ _)).mono ?_
 rintro e w1 ⟨vg,rfl,hn,b1⟩
 go_wp2_with fail
 refine (H1.out _ _ b1 hn).mono ?_
 rintro e w2 ⟨v1,rfl,o1⟩
 have b2:=b1.trans (o1.below.mono b1.size)
 go_wp2_with fail
 refine (H2.out _ _ b2 (hn.mono o1.below)).mono ?_
 rintro e w3 ⟨v2,rfl,o2⟩
 go_wp2_with fail
 go_ret3
 exact ⟨_,_,rfl,o1.isN.mono o2.below,o2.isN,b2.trans (o2.below.mono b2.size)⟩
theorem rmake_any (n m:Int) (vn vm:Value) (w:World) (hn:IsZ w vn n) (hm:IsZ w vm m) (ln:zl n≤100000000) (lm:zl m≤100000000) (hm0:m ≠ 0) :
  Calls Tryz.prog 157 #[vn,vm] w (RetPE w (Rat.divInt n m).num (Rat.divInt n m).den 0):=by
 obtain ⟨A,c,rfl,in1⟩:=hn.form
 obtain ⟨B,d,rfl,im1⟩:=hm.form
 obtain ⟨e1,e2⟩:=divInt_pair n m hm0
 rw [e1,e2]
 have HL:=Hd9 (fun W h1 h2 => rlowest_any n.natAbs m.natAbs (.slice A (zl n) c) (.slice B (zl m) d) W h1 h2 ln lm (by omega))
 have hlg:=len_div_le n.natAbs (Nat.gcd n.natAbs m.natAbs)
 have hln:len n.natAbs≤100000000:=ln
 obtain ⟨x,hx⟩:=nm9 (n.natAbs / Nat.gcd n.natAbs m.natAbs)
 obtain ⟨y,hy⟩:=nm9 (m.natAbs / Nat.gcd n.natAbs m.natAbs)
 rw [hx] at HL hlg ⊢
 rw [hy] at HL ⊢
 obtain ⟨sb,hsb⟩:=nm9 ((ng n != ng m))
 have hsb2:(!(ng n == ng m)) = sb:=hsb
 rw [hsb]
 have L0:=((Lq.mk0 w).n in1).n im1
 clear hn hm in1 im1 e1 e2 hx hy ln lm hm0
 go_enter Tryz.func157,Tryz.ntmps157
 go_wp2_with fail
 have L:=(((L0.varZ (w.heap.size) (by simp) (ng n) A (zl n) c).varZ (w.heap.size + 1) (by simp) (ng m) B (zl m) d).varQ (w.heap.size + 2) (by simp) false none none 0 0 0 0)
 obtain ⟨c00,c01,c02⟩:=L.b0.a3
 obtain ⟨f00,f01,f02⟩:=L.b0.f3
 obtain ⟨c10,c11⟩:=L.tl.b0.a2
 obtain ⟨c20,c21⟩:=L.tl.tl.b0.a2
 refine (HL.out _ (L.getN (by simp)) (L.getN (by simp))).mono ?_
 rintro e w1 ⟨v1,v2,rfl,h1,h2,be⟩
 clear c00 f00 c01 f01 c02 f02 c10 c11 c20 c21
 replace L:=((L.step be).n h1).n h2
 obtain ⟨A2,c2,rfl⟩:=h2.form
 clear be h1 h2
 obtain ⟨c00,c01,c02⟩:=L.b0.a3
 obtain ⟨f00,f01,f02⟩:=L.b0.f3
 obtain ⟨c10,c11⟩:=L.tl.b0.a2
 obtain ⟨c20,c21⟩:=L.tl.tl.b0.a2
 have HS:=Hd9 (fun b W h => rznatN_any b x v1 W h (by omega))
 go_wp2_with fail
 refine (HS.out _ _ (L.getN (by simp))).mono ?_
 rintro e w2 ⟨v3,rfl,iz,be⟩
 clear c00 f00 c01 f01 c02 f02 c10 c11 c20 c21
 replace L:=(L.step be).z iz
 obtain ⟨A3,c3,rfl,_⟩:=iz.form
 clear be iz
 obtain ⟨c00,c01,c02⟩:=L.b0.a3
 obtain ⟨f00,f01,f02⟩:=L.b0.f3
 obtain ⟨c10,c11⟩:=L.tl.b0.a2
 obtain ⟨c20,c21⟩:=L.tl.tl.b0.a2
 go_wp2_with fail
 have LP:=L.putQ (by omega) (by first | (simp;done) | (simp;omega)) (ng (sg sb x)) A3 A2 (zl (sg sb x)) c3 (len (y)) c2
 obtain ⟨k0,k1,k2⟩:=LP.b0.a3
 unfold put3 at k0 k1 k2
 exact bodyPost_ret (v:=.tuple #[.agg #[.bool (ng (sg sb x)),.slice A3 (zl (sg sb x)) c3,.slice A2 (len (y)) c2],.int .i64 0]) (by simp [results,Tryz.results157,go_sem,k0,k1,k2]) rfl ⟨_,rfl,isP_of LP.hz (LP.getN (by simp)),LP.below⟩
theorem rof7_any (n m:Int) (vn vm:Value) (w:World) (hn:IsZ w vn n) (hm:IsZ w vm m) (ln:zl n≤100000000) (lm:zl m≤100000000) (hm0:m ≠ 0) :
  Calls Tryz.prog 92 #[vn,vm] w (RetQ w (Rat.divInt n m)):=by
 obtain ⟨A,c,rfl,_⟩:=hn.form
 obtain ⟨B,d,rfl,_⟩:=hm.form
 have HM:=Hd9 (fun W h1 h2 => rmake_any n m (.agg #[.bool (ng n),.slice A (zl n) c]) (.agg #[.bool (ng m),.slice B (zl m) d]) W h1 h2 ln lm hm0)
 unfold RetQ
 generalize (Rat.divInt n m).num = a at *
 generalize (Rat.divInt n m).den = r at *
 have L0:=((Lq.mk0 w).z hn).z hm
 clear hn hm ln lm hm0
 go_enter Tryz.func92,Tryz.ntmps92
 go_wp2_with fail
 have L:=(((L0.varZ (w.heap.size) (by simp) (ng n) A (zl n) c).varZ (w.heap.size + 1) (by simp) (ng m) B (zl m) d).varQ (w.heap.size + 2) (by simp) false none none 0 0 0 0)
 obtain ⟨c00,c01,c02⟩:=L.b0.a3
 obtain ⟨f00,f01,f02⟩:=L.b0.f3
 obtain ⟨c10,c11⟩:=L.tl.b0.a2
 obtain ⟨c20,c21⟩:=L.tl.tl.b0.a2
 refine (HM.out _ (L.getZ (by simp)) (L.getZ (by simp))).mono ?_
 rintro e w1 ⟨v,rfl,iq,be⟩
 clear c00 f00 c01 f01 c02 f02 c10 c11 c20 c21
 replace L:=(L.step be).q iq
 obtain ⟨A2,c2,B2,d2,rfl,_,_,_⟩:=iq.form
 clear be iq
 obtain ⟨c00,c01,c02⟩:=L.b0.a3
 obtain ⟨f00,f01,f02⟩:=L.b0.f3
 obtain ⟨c10,c11⟩:=L.tl.b0.a2
 obtain ⟨c20,c21⟩:=L.tl.tl.b0.a2
 have hlt:=L.b0.lt
 have LP0:=L.putQ (by omega) (by first | (simp;done) | (simp;omega)) (ng a) A2 B2 (zl a) c2 (len r) d2
 have LP:=LP0.varQ _ rfl (ng a) A2 B2 (zl a) c2 (len r) d2
 obtain ⟨k0,k1,k2⟩:=LP.tl.b0.a3
 unfold put3 at k0 k1 k2
 replace L:=L.varQ w1.heap.size rfl (ng a) A2 B2 (zl a) c2 (len r) d2
 obtain ⟨y0,y1,y2⟩:=L.b0.a3
 go_wp2_with fail
 exact bodyPost_ret (v:=.agg #[.bool (ng a),.slice A2 (zl a) c2,.slice B2 (len r) d2]) (by simp [results,Tryz.results92,go_sem,k0,k1,k2]) rfl ⟨_,rfl,LP.hq,LP.below⟩

end Go.Proofs.YtiddbhhhmeopeaaGreatDoor


/- The reference's den,Sign,Neg,Add,Mul,Sub,Cmp,Div. -/
namespace Go.Proofs.YtiddbhhhmeopeaaGreatDoor
set_option maxHeartbeats 64000000
open Go.RowKit
set_option linter.unusedVariables false
set_option linter.unusedSimpArgs false
set_option maxRecDepth 100000
attribute [local go_sem ↓] Go.wp_at_zero Go.wp_at_succ

theorem rden_any (a:Int) (d:Nat) (vx:Value) (w:World) (hx:IsP w vx a d) (ld:len d≤100000000) :
  Calls Tryz.prog 155 #[vx] w (RetZ w (d:Int)):=by
 obtain ⟨A,c,B,g,rfl,_,_,hd⟩:=hx.form
 have HS:=Hd9 (fun W h => rznatN_any false d (.slice B (len d) g) W h (by omega))
 have L0:=(Lq.mk0 w).n hd
 clear hx hd
 go_enter Tryz.func155,Tryz.ntmps155
 go_wp2_with fail
 have L:=((L0.varQ (w.heap.size) (by simp) (ng a) A B (zl a) c (len d) g).varZ (w.heap.size + 1) (by simp) false none 0 0)
 obtain ⟨c00,c01⟩:=L.b0.a2
 obtain ⟨f00,f01⟩:=L.b0.f2
 obtain ⟨c10,c11,c12⟩:=L.tl.b0.a3
 refine (HS.out _ (L.getN (by simp))).mono ?_
 rintro e w1 ⟨v,rfl,iz,be⟩
 clear c00 f00 c01 f01 c10 c11 c12
 replace L:=(L.step be).z iz
 obtain ⟨A3,c3,rfl,_⟩:=iz.form
 clear be iz
 obtain ⟨c00,c01⟩:=L.b0.a2
 obtain ⟨f00,f01⟩:=L.b0.f2
 obtain ⟨c10,c11,c12⟩:=L.tl.b0.a3
 go_wp2_with fail
 have LP:=L.putZ (by omega) (by first | (simp;done) | (simp;omega)) (ng (sg false d)) A3 (zl (sg false d)) c3
 obtain ⟨k0,k1⟩:=LP.b0.a2
 unfold put2 at k0 k1
 exact bodyPost_ret (v:=.agg #[.bool (ng (sg false d)),.slice A3 (zl (sg false d)) c3]) (by simp [results,Tryz.results155,go_sem,k0,k1]) rfl ⟨_,rfl,LP.hz,LP.below⟩
theorem rcmp7_any (a:Int) (d:Nat) (b:Int) (e:Nat) (vx vy:Value) (w:World) (hx:IsP w vx a d) (hy:IsP w vy b e) (la:zl a≤1000000) (ld:len d≤1000000) (lb:zl b≤1000000) (le:len e≤1000000) :
  Calls Tryz.prog 90 #[vx,vy] w (RetI w (cmpI (a * (e:Int)) (b * (d:Int)))):=by
 obtain ⟨A,c,B,g,rfl,hza,_,_⟩:=hx.form
 obtain ⟨C,i,D,k,rfl,hzb,_,_⟩:=hy.form
 have L0:=((((Lq.mk0 w).q hx).q hy).z hza).z hzb
 clear hx hy hza hzb
 have HX:=Hd9 (fun v W h => rden_any a d v W h (by omega))
 have HY:=Hd9 (fun v W h => rden_any b e v W h (by omega))
 have ld':zl (d:Int)≤1000000:=ld
 have le':zl (e:Int)≤1000000:=le
 have l1:=zl_mul a (e:Int)
 have l2:=zl_mul b (d:Int)
 have H1:=Hd9 (fun v u W h1 h2 => rzmul_any a (e:Int) v u W h1 h2 (by omega) (by omega))
 have H2:=Hd9 (fun v u W h1 h2 => rzmul_any b (d:Int) v u W h1 h2 (by omega) (by omega))
 have H3:=Hd9 (fun v u W h1 h2 => rzcmp_any (a * (e:Int)) (b * (d:Int)) v u W h1 h2 (by omega) (by omega))
 generalize cmpI (a * (e:Int)) (b * (d:Int)) = r at *
 clear l1 l2 ld' le' la ld lb le
 generalize a * (e:Int) = p1 at *
 generalize b * (d:Int) = p2 at *
 go_enter Tryz.func90,Tryz.ntmps90
 go_wp2_with fail
 have L:=((L0.varQ (w.heap.size) (by simp) (ng a) A B (zl a) c (len d) g).varQ (w.heap.size + 1) (by simp) (ng b) C D (zl b) i (len e) k)
 replace L:=L.drew
 obtain ⟨c00,c01,c02⟩:=L.b0.a3
 obtain ⟨f00,f01,f02⟩:=L.b0.f3
 obtain ⟨c10,c11,c12⟩:=L.tl.b0.a3
 go_region_held3 (fun w' => w'.cell? ⟨w.heap.size,0,none⟩ = some (.bool (ng a))∧w'.cell? ⟨w.heap.size,1,none⟩ = some (.slice A (zl a) c)∧w'.cell? ⟨w.heap.size,2,none⟩ = some (.slice B (len d) g)∧w'.cell? ⟨w.heap.size + 1,0,none⟩ = some (.bool (ng b))∧w'.cell? ⟨w.heap.size + 1,1,none⟩ = some (.slice C (zl b) i)∧w'.cell? ⟨w.heap.size + 1,2,none⟩ = some (.slice D (len e) k)) (first | (with_reducible exact ⟨L.tl.b0.c30,L.tl.b0.c31,L.tl.b0.c32,L.b0.c30,L.b0.c31,L.b0.c32⟩) | exact ⟨L.tl.b0.c30,L.tl.b0.c31,L.tl.b0.c32,L.b0.c30,L.b0.c31,L.b0.c32⟩) (first | (go_at_call 155;(with_reducible refine (HX.out _ _ ?_ ).mono ?_);(· (refine L.getQ ?_;(repeat (first | (with_reducible exact mS) | apply mT))));rintro e wh ⟨vh,rfl,iz,be⟩;replace L:=(L.step be).z iz;clear be iz) | (go_at_call 155;(with_reducible refine (HY.out _ _ ?_ ).mono ?_);(· (refine L.getQ ?_;(repeat (first | (with_reducible exact mS) | apply mT))));rintro e wh ⟨vh,rfl,iz,be⟩;replace L:=(L.step be).z iz;clear be iz) | (go_at_call 78;(with_reducible refine (H1.out _ _ _ ?_ ?_ ).mono ?_);(· (refine L.getZ ?_;(repeat (first | (with_reducible exact mS) | apply mT))));(· (refine L.getZ ?_;(repeat (first | (with_reducible exact mS) | apply mT))));rintro e wh ⟨vh,rfl,iz,be⟩;replace L:=(L.step be).z iz;clear be iz) | (go_at_call 78;(with_reducible refine (H2.out _ _ _ ?_ ?_ ).mono ?_);(· (refine L.getZ ?_;(repeat (first | (with_reducible exact mS) | apply mT))));(· (refine L.getZ ?_;(repeat (first | (with_reducible exact mS) | apply mT))));rintro e wh ⟨vh,rfl,iz,be⟩;replace L:=(L.step be).z iz;clear be iz) | (go_at_call 108;(with_reducible refine (H3.out _ _ _ ?_ ?_ ).mono ?_);(· (refine L.getZ ?_;(repeat (first | (with_reducible exact mS) | apply mT))));(· (refine L.getZ ?_;(repeat (first | (with_reducible exact mS) | apply mT))));rintro e wh ⟨rfl,be⟩;replace L:=L.step be;clear be))
 clear c00 f00 c01 f01 c02 f02 c10 c11 c12
 go_wp2_with fail
 go_ret
 exact ⟨rfl,L.below⟩

end Go.Proofs.YtiddbhhhmeopeaaGreatDoor


/- The reference's Div,Of,Same,Size,Sqrt;the mill's Rat. -/
namespace Go.Proofs.YtiddbhhhmeopeaaGreatDoor
set_option maxHeartbeats 64000000
open Go.RowKit
set_option linter.unusedVariables false
set_option linter.unusedSimpArgs false
set_option maxRecDepth 100000
attribute [local go_sem ↓] Go.wp_at_zero Go.wp_at_succ

theorem rofn7_any (n:Int) (w:World) (h1:-9223372036854775808≤n) (h2:n≤9223372036854775807) :
  Calls Tryz.prog 41 #[.int .i64 n] w (RetQ w (n:Rat)):=by
 have H1:=Hd9 (fun W => rzof_any n W h1 h2)
 have H2:=Hd9 (fun W => rzof_any 1 W (by omega) (by omega))
 have l1:zl 1≤1:=len_le1 (show 1 < 4294967296 by omega)
 have l2:zl n≤2:=len_le_iff.2 (by unfold W32;omega)
 have h3:=fun v u W k1 k2 => rof7_any n 1 v u W k1 k2 (by omega) (by omega) (by omega)
 rw [rat_of] at h3
 unfold RetQ at h3 ⊢
 have H3:=Hd9 h3
 generalize (n:Rat).num = rn at *
 generalize (n:Rat).den = rd at *
 clear h3 l1 l2
 go_enter Tryz.func41,Tryz.ntmps41
 go_wp2_with fail
 have L:=((Lq.mk0 w).varQ (w.heap.size) (by simp) false none none 0 0 0 0)
 refine (H1.out _).mono ?_
 rintro e w1 ⟨v1,rfl,iz,be⟩
 replace L:=(L.step be).z iz
 clear be iz
 go_wp2_with fail
 refine (H2.out _).mono ?_
 rintro e w2 ⟨v2,rfl,iz,be⟩
 replace L:=(L.step be).z iz
 clear be iz
 go_wp2_with fail
 refine (H3.out _ _ _ (L.getZ (by simp)) (L.getZ (by simp))).mono ?_
 rintro e w3 ⟨v3,rfl,iq,be⟩
 replace L:=(L.step be).q iq
 obtain ⟨A9,c9,B9,d9,rfl,_,_,_⟩:=iq.form
 clear be iq
 obtain ⟨c00,c01,c02⟩:=L.b0.a3
 obtain ⟨f00,f01,f02⟩:=L.b0.f3
 go_wp2_with fail
 have LP:=L.putQ (by omega) (by first | (simp;done) | (simp;omega)) (ng (rn)) A9 B9 (zl (rn)) c9 (len (rd)) d9
 obtain ⟨k0,k1,k2⟩:=LP.b0.a3
 unfold put3 at k0 k1 k2
 exact bodyPost_ret (v:=.agg #[.bool (ng (rn)),.slice A9 (zl (rn)) c9,.slice B9 (len (rd)) d9]) (by simp [results,Tryz.results41,go_sem,k0,k1,k2]) rfl ⟨_,rfl,LP.hq,LP.below⟩
end Go.Proofs.YtiddbhhhmeopeaaGreatDoor


/- The mill's Rat. -/
namespace Go.Proofs.YtiddbhhhmeopeaaGreatDoor
set_option maxHeartbeats 64000000
open Go.RowKit
set_option linter.unusedVariables false
set_option linter.unusedSimpArgs false
set_option maxRecDepth 100000
attribute [local go_sem ↓] Go.wp_at_zero Go.wp_at_succ

end Go.Proofs.YtiddbhhhmeopeaaGreatDoor

