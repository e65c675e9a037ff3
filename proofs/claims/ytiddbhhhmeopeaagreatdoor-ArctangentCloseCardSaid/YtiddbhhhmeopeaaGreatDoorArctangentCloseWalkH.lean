/- The walk of ArctangentClose: whatever the input, the law returns true and turns nothing that was there. -/
import Derived.Test.YtiddbhhhmeopeaaGreatDoorJH5
import Derived.Test.YtiddbhhhmeopeaaGreatDoorBaseWH
import Derived.Deep.RegionHeld3
import Derived.Deep.DrawnRows
import Derived.Deep.Cut
import Derived.Deep.CutRange
namespace Go.Proofs.YtiddbhhhmeopeaaGreatDoor
set_option maxHeartbeats 64000000
open Go.RowKit
set_option linter.unusedVariables false
set_option linter.unusedSimpArgs false
set_option maxRecDepth 100000
attribute [local go_sem ↓] Go.wp_at_zero Go.wp_at_succ

theorem plainC2 (N0 N1:Int):Plain #[.int .i64 N0,.int .i64 N1]:=fun j x => by
 match j with
 | 0 => simp
 | 1 => simp
 | j + 2 => simp

theorem walk_ArctangentClose (b0:Bool) (a0:Option Addr) (len0 cap0:Nat) (z0:List Nat) (f0:Int) (bb0:Bool) (aa0:Option Addr) (ll0 cc0:Nat) (zz0:List Nat) (ff0:Int) (a1:Int) (a2:Bool) (w:World) (h0:Sl w a0 len0 cap0 z0∧-9223372036854775808≤f0∧f0≤9223372036854775807) (k0:Sl w aa0 ll0 cc0 zz0∧-9223372036854775808≤ff0∧ff0≤9223372036854775807) (h1:-9223372036854775808≤a1∧a1≤9223372036854775807)  (hT:Tab w) :
  Calls Tryz.prog 3 #[.agg #[.bool b0,.slice a0 len0 cap0,.int .i64 f0,.bool bb0,.slice aa0 ll0 cc0,.int .i64 ff0],.int .i64 a1,.bool a2] w (fun e w' => e = .returned (.bool true)∧Below w.heap.size w w'):=by
 have HT:=Hd9 (fun W (hW:Below w.heap.size w W) => hT.mono hW)
 clear hT
 go_enter Tryz.func3,Tryz.ntmps3
 go_wp2_with fail
 have L:=((Lq.mk0 w).varI (w.heap.size) (by simp) b0 a0 len0 cap0 f0 bb0 aa0 ll0 cc0 ff0)
 (try go_wp2_with fail)
 refine (awake16_any _ (HT.out _ L.below)).mono ?_
 rintro e9 w1 ⟨rfl,be⟩
 replace L:=L.step be
 clear be
 obtain ⟨c00,c01,c02,c03,c04,c05⟩:=L.b0.a6
 (try go_wp2_with fail)
 refine (millI_any b0 bb0 z0 zz0 2 50 a0 aa0 len0 cap0 ll0 cc0 f0 ff0 _ (h0.1.mono L.below) (k0.1.mono L.below) (by omega) (by omega) h0.2.1 h0.2.2 k0.2.1 k0.2.2).mono ?_
 rintro e9 w2 ⟨vx,okx,m,e,n,f,rfl,ii,zz9,be1,bf1,hdv,hcm,be⟩
 clear c00 c01 c02 c03 c04 c05
 obtain ⟨A,c,B,d,rfl,ia,ib⟩:=ii.form
 replace L:=((L.step be).n ib).n ia
 clear be ii ia ib
 have hl9:=L.b0.lt
 have Hx:=Hd9 (fun h:okx = true => (show ArgA m e n f from ⟨(hdv h).1,(hdv h).2,hcm,zz9.1,zz9.2,by omega,by omega⟩))
 clear hdv hcm zz9 be1 bf1
 replace L:=L.varI w2.heap.size rfl (ng m) A (zl m) c e (ng n) B (zl n) d f
 cases okx
 ·go_wp2_with fail
  go_ret
  exact ⟨rfl,L.below⟩
 have HX:=Hd9 (Hx.out rfl)
 clear Hx
 have hr:=HX.out
 have z1:=hr.zm
 have z2:=hr.zn
 have e1:=hr.em
 have e2:=hr.en
 have hd:=hr.le
 obtain ⟨_,_,_,t4,t5,t6,t7,t8⟩:=thin14_ok (m:=m) (e:=e) (n:=n) (f:=f) (j:=30) (by omega) z1 z2 (by omega) (by omega) hd hr.vn
 have hth:=ArgC16.mk9 hr t8 t4 t5 t6 t7
 have hno:=ArgC16.mk9 hr hr.vn (by omega) (by omega) hd Rat.le_refl
 have gt:=fun x W h => thin14_any m e n f 30 (by omega) x W h z1 z2 (by omega) (by omega) hd hr.vn
 obtain ⟨n2,hn2⟩:=nm9 (thN m e n f 30)
 obtain ⟨f2,hf2⟩:=nm9 (thF m e n f 30)
 rw [hn2,hf2] at gt hth
 have GT:=Hd9 gt
 have HTH:=Hd9 hth
 have HNO:=Hd9 hno
 clear gt hth hno hr t4 t5 t6 t7 t8 hn2 hf2 z1 z2 e1 e2 hd HX
 obtain ⟨c00,c01,c02,c03,c04,c05⟩:=L.b0.a6
 obtain ⟨f00,f01,f02,f03,f04,f05⟩:=L.b0.f6
 go_upto_if 22 with fail
 clear c00 f00 c01 f01 c02 f02 c03 f03 c04 f04 c05 f05
 obtain ⟨gx,hgx⟩:=nm9 (w2.heap.size)
 rw [hgx] at L hl9 ⊢
 clear hgx
 have L8:=L.pick [(gx,28,#[.bool (ng m),.slice A (zl m) c,.int .i64 e,.bool (ng n),.slice B (zl n) d,.int .i64 f])] (by simp)
 clear L
 have L:=L8
 clear L8
 go_cut [22] from 23 to 24 (fun s22 wx => ∃ (A:Option Addr) (c:Nat) (n' f':Int) (B':Option Addr) (d':Nat),Lq w wx [(.slice A (zl m) c,m.natAbs),(.slice B' (zl n') d',n'.natAbs)] [] [] [(gx,28,#[.bool (ng m),.slice A (zl m) c,.int .i64 e,.bool (ng n'),.slice B' (zl n') d',.int .i64 f'])]∧Hid (ArgC16 m e n' f'))
 case first =>
  cases a2
  ·go_wp2_with fail
   go_meet
   exact ⟨A,c,n,f,B,d,L.subx (by simp) (by simp),HNO⟩
  ·skip
   obtain ⟨c00,c01,c02,c03,c04,c05⟩:=L.b0.a6
   obtain ⟨f00,f01,f02,f03,f04,f05⟩:=L.b0.f6
   go_wp2_with fail
   refine (GT.out _ _ (isI_n (m:=m) (e:=e) (n:=n) (f:=f) (s:=.slice A (zl m) c) (t:=.slice B (zl n) d) (L.getN (by simp)) (L.getN (by simp)))).mono ?_
   rintro e w21 ⟨vv,rfl,ii,be⟩
   clear c00 f00 c01 f01 c02 f02 c03 f03 c04 f04 c05 f05
   obtain ⟨A5,c5,B5,d5,rfl,ia,ib⟩:=ii.form
   replace L:=((L.step be).n ib).n ia
   clear be ii ia ib
   obtain ⟨c00,c01,c02,c03,c04,c05⟩:=L.b0.a6
   obtain ⟨f00,f01,f02,f03,f04,f05⟩:=L.b0.f6
   have P:=L.putI (by omega) (by simp) (ng m) A5 (zl m) c5 e (ng n2) B5 (zl n2) d5 f2
   unfold put6 at P
   go_wp2_with fail
   go_meet
   exact ⟨A5,c5,n2,f2,B5,d5,P.subx (by simp) (by simp),HTH⟩
 case rest =>
  clear L GT HNO HTH
  obtain ⟨A,c,n,f,B,d,L,HX⟩:=hcut
  generalize wc = wd at *
  obtain ⟨r1,hr1⟩:∃ r:Nat,a1 % 120 = (r:Int):=⟨(a1 % 120).toNat,by omega⟩
  obtain ⟨r2,hr2⟩:∃ r:Nat,a1 % 4 = (r:Int):=⟨(a1 % 4).toNat,by omega⟩
  have o1:=fun W => mod_any a1 120 W (by omega) (by omega) h1.1 h1.2
  have o2:=fun W => mod_any a1 4 W (by omega) (by omega) h1.1 h1.2
  rw [hr1] at o1
  rw [hr2] at o2
  have br1:r1 < 120:=by omega
  have br2:r2 < 120:=by omega
  have MO1:=Hd9 o1
  have MO2:=Hd9 o2
  clear o1 o2 hr1 hr2
  (try go_wp2_with fail)
  refine (MO1.out _).mono ?_
  rintro e9 w' ⟨rfl,rfl⟩
  (try go_wp2_with fail)
  refine (MO2.out _).mono ?_
  rintro e9 w' ⟨rfl,rfl⟩
  have hgx:=L.b0.lt
  replace L:=L.var wd.heap.size rfl 3 #[.int .i64 (r1:Int),.int .i64 (r2:Int)] (plainC2 _ _)
  go_wp2_with fail
  obtain ⟨gr,hgr⟩:=nm9 (wd.heap.size)
  rw [hgr] at L hgx ⊢
  clear hgr MO1 MO2
  have HB:=Hd9 (And.intro br1 br2)
  clear br1 br2
  go_loopw [31] (fun i wr => ∃ t:Nat,i = .int .i64 (t:Int)∧t≤2∧Lq w wr [(.slice A (zl m) c,m.natAbs),(.slice B (zl n) d,n.natAbs)] [] [] [(gr,3,#[.int .i64 (r1:Int),.int .i64 (r2:Int)]),(gx,28,#[.bool (ng m),.slice A (zl m) c,.int .i64 e,.bool (ng n),.slice B (zl n) d,.int .i64 f])]) (fun i _ => 2 - (intOf i).toNat)
  case atStart => exact ⟨0,rfl,by omega,L.subx (by simp) (by simp)⟩
  case round =>
   clear L
   obtain ⟨t,rfl,ht,L⟩:=hrel
   rcases Nat.eq_or_lt_of_le ht with rfl | ht3
   ·go_wp2_with fail
    go_ret
    exact ⟨rfl,L.below⟩
   ·obtain ⟨r,hr,hrb⟩:∃ r:Nat,wr.cell? ⟨gr,t,none⟩ = some (.int .i64 (r:Int))∧r < 120:=by
     rcases (show t = 0 ∨ t = 1 by omega) with rfl | rfl
     ·exact ⟨r1,L.b0.cell 0,HB.out.1⟩
     ·exact ⟨r2,L.b0.cell 1,HB.out.2⟩
    have hlt:(t:Int) < 2:=by omega
    have ht0:(0:Int)≤(t:Int):=by omega
    have hX:=HX.out
    have z1:=hX.zm
    have z2:=hX.zn
    have b1:=hX.em
    have b2:=hX.en
    have g1:=fun v W h (hW:Below w.heap.size w W) => tatan_yes m e n f r v W h (by omega) (by omega) (by omega) (by omega) hX.vm hX.vn hX.sm (by omega) (HT.out W hW)
    have g2:=fun v W h => s16at_any m e r v W h (by omega) (by omega) (by omega)
    have g3:=fun v W h => s16at_any n f r v W h (by omega) (by omega) (by omega)
    have g4:=fun a b a1 b1 a2 b2 vx vl vh W pa pb za zb pl ph hx hl hh => near16 r a b a1 b1 a2 b2 (dq m e) (dq n f) vx vl vh W (by omega) hX.le pa pb za zb pl ph hx hl hh
    obtain ⟨k16,hk16⟩:=nm9 (r + 16)
    rw [hk16] at g2 g3 g4
    have G1:=Hd9 g1
    have G2:=Hd9 g2
    have G3:=Hd9 g3
    have G4:=Hd9 g4
    have w9:IntKind.i64.wrap ((t:Int) + 1) = (t:Int) + 1:=by rw [IntKind.wrap_i64];omega
    have hgx2:=L.tl.b0.lt
    clear g1 g2 g3 g4 hX z1 z2 b1 b2
    obtain ⟨cel10,cel11,cel12,cel13,cel14,cel15⟩:=L.tl.b0.a6
    go_wp2_with fail
    refine (G1.out _ _ (isI_n (m:=m) (e:=e) (n:=n) (f:=f) (s:=.slice A (zl m) c) (t:=.slice B (zl n) d) (L.getN (by simp)) (L.getN (by simp))) L.below).mono ?_
    intro e9 w41 hr9
    obtain ⟨a,b,⟨ea,eb,za,zb⟩,vv,rfl,ii,be⟩:=hr9
    clear cel10 cel11 cel12 cel13 cel14 cel15
    obtain ⟨A2,c2,B2,d2,rfl,ia,ib⟩:=ii.form
    replace L:=((L.step be).n ib).n ia
    clear be ii ia ib
    have hl9:=L.b0.lt
    have g5:=fun a1 b1 a2 b2 vx vl vh W pl ph hx hl hh => G4.out a b a1 b1 a2 b2 vx vl vh W ea eb za zb pl ph hx hl hh
    obtain ⟨Ma,hMa⟩:=nm9 (mkM a (-(r:Int)))
    obtain ⟨Ea,hEa⟩:=nm9 (mkE a (-(r:Int)))
    obtain ⟨Nb,hNb⟩:=nm9 (mkM b (-(r:Int)))
    obtain ⟨Fb,hFb⟩:=nm9 (mkE b (-(r:Int)))
    rw [hMa,hEa,hNb,hFb] at g5
    rw [hMa,hNb] at L ⊢
    rw [hEa,hFb]
    have G5:=Hd9 g5
    clear g5 hMa hEa hNb hFb
    replace L:=L.varI w41.heap.size rfl (ng Ma) A2 (zl Ma) c2 Ea (ng Nb) B2 (zl Nb) d2 Fb
    clear ea eb za zb G4 hr hrb
    obtain ⟨cel00,cel01,cel02,cel03,cel04,cel05⟩:=L.b0.a6
    go_wp2_with fail
    clear cel00 cel01 cel02 cel03 cel04 cel05
    obtain ⟨gy,hgy⟩:=nm9 (w41.heap.size)
    rw [hgy] at L hl9 ⊢
    clear hgy
    replace L:=L.drew
    obtain ⟨cel00,cel01,cel02,cel03,cel04,cel05⟩:=L.b0.a6
    obtain ⟨cel20,cel21,cel22,cel23,cel24,cel25⟩:=L.tl.tl.b0.a6
    go_region_held3 (fun w' => w'.cell? ⟨gy,0,none⟩ = some (.bool (ng Ma))∧w'.cell? ⟨gy,1,none⟩ = some (.slice A2 (zl Ma) c2)∧w'.cell? ⟨gy,2,none⟩ = some (.int .i64 Ea)∧w'.cell? ⟨gy,3,none⟩ = some (.bool (ng Nb))∧w'.cell? ⟨gy,4,none⟩ = some (.slice B2 (zl Nb) d2)∧w'.cell? ⟨gy,5,none⟩ = some (.int .i64 Fb)∧w'.cell? ⟨gx,0,none⟩ = some (.bool (ng m))∧w'.cell? ⟨gx,1,none⟩ = some (.slice A (zl m) c)∧w'.cell? ⟨gx,2,none⟩ = some (.int .i64 e)∧w'.cell? ⟨gx,3,none⟩ = some (.bool (ng n))∧w'.cell? ⟨gx,4,none⟩ = some (.slice B (zl n) d)∧w'.cell? ⟨gx,5,none⟩ = some (.int .i64 f)) (first | (with_reducible exact ⟨L.b0.c60,L.b0.c61,L.b0.c62,L.b0.c63,L.b0.c64,L.b0.c65,L.tl.tl.b0.c60,L.tl.tl.b0.c61,L.tl.tl.b0.c62,L.tl.tl.b0.c63,L.tl.tl.b0.c64,L.tl.tl.b0.c65⟩) | exact ⟨L.b0.c60,L.b0.c61,L.b0.c62,L.b0.c63,L.b0.c64,L.b0.c65,L.tl.tl.b0.c60,L.tl.tl.b0.c61,L.tl.tl.b0.c62,L.tl.tl.b0.c63,L.tl.tl.b0.c64,L.tl.tl.b0.c65⟩) (first | (go_at_call 18;(with_reducible refine (G2.out _ _ ?_).mono ?_);(· (refine isD_n (L.getN ?_);(repeat (first | (with_reducible exact mS) | apply mT))));rintro e wh hr9;obtain ⟨x1,y1,ex1,vh,rfl,ii,be⟩:=hr9.ab;obtain ⟨A6,c6,B6,d6,rfl,ia,ib⟩:=ii.form;replace L:=((L.step be).n ib).n ia;clear be ii ia ib hr9) | (go_at_call 18;(with_reducible refine (G3.out _ _ ?_).mono ?_);(· (refine isD_n (L.getN ?_);(repeat (first | (with_reducible exact mS) | apply mT))));rintro e wh hr9;obtain ⟨x2,y2,ex2,vh,rfl,ii,be⟩:=hr9.ab;obtain ⟨A7,c7,B7,d7,rfl,ia,ib⟩:=ii.form;replace L:=((L.step be).n ib).n ia;clear be ii ia ib hr9) | (go_at_call 17;(with_reducible refine (G5.out x1 y1 x2 y2 _ _ _ _ ex1 ex2 ?_ ?_ ?_).mono ?_);(· (refine isI_n (L.getN ?_) (L.getN ?_);all_goals (repeat (first | (with_reducible exact mS) | apply mT))));(· (refine isI_n (L.getN ?_) (L.getN ?_);all_goals (repeat (first | (with_reducible exact mS) | apply mT))));(· (refine isI_n (L.getN ?_) (L.getN ?_);all_goals (repeat (first | (with_reducible exact mS) | apply mT))));rintro e wh ⟨rfl,be⟩;replace L:=L.step be;clear be))
    (try go_wp2_with fail)
    go_roundw
    case rel => exact ⟨t + 1,by go_num,by omega,L.subx (by simp) (by simp)⟩
    case measure => simp [intOf];omega

end Go.Proofs.YtiddbhhhmeopeaaGreatDoor
