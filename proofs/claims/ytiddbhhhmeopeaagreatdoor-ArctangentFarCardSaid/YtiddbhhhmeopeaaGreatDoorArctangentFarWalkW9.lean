/- The walk of ArctangentFar: whatever the input, the law returns true and turns nothing that was there. -/
import Derived.Test.YtiddbhhhmeopeaaGreatDoorJW95
import Derived.Test.YtiddbhhhmeopeaaGreatDoorBaseWW9
import Derived.Deep.RegionHeld3
import Derived.Deep.DrawnRows
import Derived.Deep.Cut
import Derived.Deep.CutRange
namespace Go.Proofs.YtiddbhhhmeopeaaGreatDoor
set_option maxHeartbeats 64000000
open Go.RowKit
set_option linter.unusedVariables false
set_option linter.unusedSimpArgs false
set_option maxRecDepth 100000
attribute [local go_sem ↓] Go.wp_at_zero Go.wp_at_succ
theorem far16 {m e k M E:Int} (hz:zl m≤3) (he:-50≤e∧e≤146) (hd:DvT 50 2 m e) (hk:0≤k∧k≤1899) (hM:mkM m (e + k) = M) (hE:mkE m (e + k) = E) :
  mkR m (e + k) = 0∧Dv M E∧zl M≤3∧(-50≤E∧E≤2200)∧smallB M E M E = true:=by
 subst hM hE
 have hr:mkR m (e + k) = 0:=mk_fits2 (by omega) (by omega) (by omega)
 have z1:=Nat.le_trans (zl_mk m (e + k)) hz
 have z2:=mkE_at hr hz
 have q:=dq_mk hr
 have hE:-50≤mkE m (e + k)∧mkE m (e + k)≤2200:=by omega
 have ht:topZ (mkM m (e + k)) (mkE m (e + k))≤2048:=by
  have h1:=hd.2
  rw [top_iff (by omega)] at h1 ⊢
  rw [q]
  have e1:dq m (e + k) = dq m e * dq 1 k:=by rw [← dq_mul,Int.mul_one]
  rw [e1]
  have p1:=dq_pos k
  have p2:=dq_anti (show ((50:Nat):Int) + 32 * ((2:Nat):Int) + k≤2048 by omega)
  rw [dq_add1] at p2
  have p3:=Rat.mul_lt_mul_of_pos_right h1.2 p1
  have p4:=Rat.mul_lt_mul_of_pos_right h1.1 p1
  rw [Rat.neg_mul] at p4
  generalize dq m e * dq 1 k = x at *
  generalize dq 1 (((50:Nat):Int) + 32 * ((2:Nat):Int)) * dq 1 k = y at *
  generalize dq 1 2048 = z at *
  clear h1 e1
  constructor <;> grind
 exact ⟨hr,mk_ok hr,z1,hE,small14 (by omega) (by omega) (by omega) (by omega) (by rw [dcm_self];omega) ht ht⟩
theorem okA_far {k:Nat} (hk:k < 60):okA (-1 - (k:Int)) = false∧okA (4097 + (k:Int)) = false:=by
 unfold okA
 rw [decide_eq_false (show ¬ 0≤-1 - (k:Int) by omega),decide_eq_false (show ¬ 4097 + (k:Int)≤4096 by omega)]
 exact ⟨rfl,Bool.and_false _⟩

theorem walk_ArctangentFar (b0:Bool) (a0:Option Addr) (len0 cap0:Nat) (z0:List Nat) (f0:Int) (a1:Int) (a2:Int) (w:World) (h0:Sl w a0 len0 cap0 z0) (u0:-9223372036854775808≤f0) (t0:f0≤9223372036854775807) (h1:-9223372036854775808≤a1∧a1≤9223372036854775807) (h2:-9223372036854775808≤a2∧a2≤9223372036854775807) (hT:Tab w) :
  Calls Tryz.prog 4 #[.agg #[.bool b0,.slice a0 len0 cap0,.int .i64 f0],.int .i64 a1,.int .i64 a2] w (fun e w' => e = .returned (.bool true)∧Below w.heap.size w w'):=by
 have HT:=Hd9 (fun W (hW:Below w.heap.size w W) => hT.mono hW)
 clear hT
 go_enter Tryz.func4,Tryz.ntmps4
 go_wp2_with fail
 have L:=((Lq.mk0 w).varD (w.heap.size) (by simp) b0 a0 len0 cap0 f0)
 (try go_wp2_with fail)
 refine (awake16_any _ (HT.out _ L.below)).mono ?_
 rintro e9 w1 ⟨rfl,be⟩
 replace L:=L.step be
 clear be
 obtain ⟨c00,c01,c02⟩:=L.b0.a3
 (try go_wp2_with fail)
 refine (millDT_any b0 z0 2 50 a0 len0 cap0 f0 _ (h0.mono L.below) (by omega) (by omega) u0 t0).mono ?_
 rintro e9 w2 ⟨vx,ok,m,e,rfl,id,zx,hf1,hf2,hdv,be⟩
 clear c00 c01 c02
 obtain ⟨A,c,rfl,_,in9⟩:=id.form
 replace L:=(L.step be).n in9
 clear be id in9
 have hl9:=L.b0.lt
 replace L:=L.varD w2.heap.size rfl (ng m) A (zl m) c e
 cases ok
 ·go_wp2_with fail
  go_ret
  exact ⟨rfl,L.below⟩
 have dv:=hdv rfl
 clear hdv
 obtain ⟨k,hk⟩:∃ r:Nat,a2 % 60 = (r:Int):=⟨(a2 % 60).toNat,by omega⟩
 obtain ⟨r,hr⟩:=nm9 (a1 % 1900)
 have o1:=fun W => mod_any a2 60 W (by omega) (by omega) h2.1 h2.2
 have o2:=fun W => mod_any a1 1900 W (by omega) (by omega) h1.1 h1.2
 rw [hk] at o1
 rw [hr] at o2
 have bk:k < 60:=by omega
 have g0:=fun v W h => rshift8_any m e r v W h (by omega) (by omega) (by omega)
 obtain ⟨M,hM⟩:=nm9 (mkM m (e + r))
 obtain ⟨E,hE⟩:=nm9 (mkE m (e + r))
 obtain ⟨q1,q2,q3,q4,q5⟩:=far16 zx (by omega) dv (by omega) hM hE
 rw [q1,hM,hE] at g0
 have g1:=fun v W h (hW:Below w.heap.size w W) => tatan_yes M E M E k v W h (by omega) (by omega) (by omega) (by omega) q2 q2 q5 (by omega) (HT.out W hW)
 have g2:=fun v W h => s16at_any M E k v W h (by omega) (by omega) (by omega)
 obtain ⟨w1,w2⟩:=okA_far bk
 have g3:=fun v W h => tatan_arg M E M E (-1 - (k:Int)) v W h w1
 have g4:=fun v W h => tatan_arg M E M E (4097 + (k:Int)) v W h w2
 have g5:=fun a b a1 b1 vx vl vh W pa pb za zb pl hx hl hh => near16 k a b a1 b1 a1 b1 (dq M E) (dq M E) vx vl vh W (by omega) Rat.le_refl pa pb za zb pl pl hx hl hh
 obtain ⟨k16,hk16⟩:=nm9 (k + 16)
 rw [hk16] at g2 g5
 obtain ⟨y1,hy1⟩:=nm9 (-1 - (k:Int))
 obtain ⟨y2,hy2⟩:=nm9 (4097 + (k:Int))
 rw [hy1] at g3
 rw [hy2] at g4
 have wq1:IntKind.i64.wrap (-1 - (k:Int)) = y1:=by rw [IntKind.wrap_i64];omega
 have wq2:IntKind.i64.wrap (4097 + (k:Int)) = y2:=by rw [IntKind.wrap_i64];omega
 have MO1:=Hd9 o1
 have MO2:=Hd9 o2
 have G0:=Hd9 g0
 have G1:=Hd9 g1
 have G2:=Hd9 g2
 have G3:=Hd9 g3
 have G4:=Hd9 g4
 have G9:=Hd9 g5
 clear o1 o2 hk hr bk g0 g1 g2 g3 g4 g5 hM hE q1 q2 q3 q4 q5 w1 w2 hy1 hy2 hk16 dv zx hf1 hf2
 obtain ⟨c00,c01,c02⟩:=L.b0.a3
 obtain ⟨f00,f01,f02⟩:=L.b0.f3
 (try go_wp2_with fail)
 clear c00 f00 c01 f01 c02 f02
 obtain ⟨gx,hgx⟩:=nm9 (w2.heap.size)
 rw [hgx] at L hl9 ⊢
 clear hgx
 have hl_gx:=hl9
 clear hl9
 have L8:=L.subx (ns':=[(.slice A (zl m) c,m.natAbs)]) (bs':=[(gx,26,#[.bool (ng m),.slice A (zl m) c,.int .i64 e])]) (by simp) (by simp)
 clear L
 have LD:=L8.drew
 clear L8
 obtain ⟨c00,c01,c02⟩:=LD.b0.a3
 obtain ⟨f00,f01,f02⟩:=LD.b0.f3
 go_cut [34] from 27 to 34 (fun s9 wx => ∃ (A1:Option Addr) (c1:Nat),Lq w wx [(.slice A1 (zl M) c1,M.natAbs)] [] [] [(gx,26,#[.bool (ng M),.slice A1 (zl M) c1,.int .i64 E])])
 case first =>
  go_region_with (first | (go_at_call 15;(with_reducible refine (MO2.out _).mono ?_);rintro e9 wh ⟨rfl,rfl⟩) | (go_at_call 20;(with_reducible refine (G0.out _ _ ?_).mono ?_);(· (refine isD_n (LD.getN ?_) <;> (repeat (first | (with_reducible exact mS) | apply mT))));rintro e9 wh ⟨vh,rfl,id,be⟩;obtain ⟨A1,c1,rfl,_,in9⟩:=id.form;replace LD:=(LD.step be).n in9;clear be id in9;(try (obtain ⟨r0,r1,r2⟩:=LD.b0.a3;obtain ⟨t0,t1,t2⟩:=LD.b0.f3))))
  all_goals
   have LP:=LD.putD (by omega) (by first | (simp;done) | (simp;omega)) (ng M) A1 (zl M) c1 E
   unfold put3 at LP
   go_wp2_with fail
   go_meet
   exact ⟨A1,c1,LP.subx (by simp) (by simp)⟩
 case rest =>
  obtain ⟨A1,c1,L⟩:=hcut
  generalize wc = wd1 at *
  clear LD MO2 G0
  (try go_wp2_with fail)
  refine (MO1.out _).mono ?_
  rintro e9 w' ⟨rfl,rfl⟩
  have hl9:=L.b0.lt
  obtain ⟨o0,o1,o2⟩:=L.b0.a3
  replace L:=L.varI wd1.heap.size rfl (ng M) A1 (zl M) c1 E (ng M) A1 (zl M) c1 E
  obtain ⟨c00,c01,c02,c03,c04,c05⟩:=L.b0.a6
  (try go_wp2_with fail)
  clear o0 o1 o2
  clear c00 c01 c02 c03 c04 c05
  obtain ⟨gi,hgi⟩:=nm9 (wd1.heap.size)
  rw [hgi] at L hl9 ⊢
  clear hgi MO1
  have hl_gi:=hl9
  clear hl9
  refine (G1.out _ _ (isI_n (m:=M) (e:=E) (n:=M) (f:=E) (s:=.slice A1 (zl M) c1) (t:=.slice A1 (zl M) c1) (L.getN (by simp)) (L.getN (by simp))) L.below).mono ?_
  intro e9 w3 hr9
  obtain ⟨a,b,⟨ea,eb,za,zb⟩,vv,rfl,ii,be⟩:=hr9
  obtain ⟨A2,c2,B2,d2,rfl,ia,ib⟩:=ii.form
  replace L:=((L.step be).n ib).n ia
  clear be ii ia ib
  have hl9:=L.b0.lt
  have g5:=fun a1 b1 vx vl vh W pl hx hl hh => G9.out a b a1 b1 vx vl vh W ea eb za zb pl hx hl hh
  obtain ⟨Ma,hMa⟩:=nm9 (mkM a (-(k:Int)))
  obtain ⟨Ea,hEa⟩:=nm9 (mkE a (-(k:Int)))
  obtain ⟨Nb,hNb⟩:=nm9 (mkM b (-(k:Int)))
  obtain ⟨Fb,hFb⟩:=nm9 (mkE b (-(k:Int)))
  rw [hMa,hEa,hNb,hFb] at g5
  rw [hMa,hNb] at L ⊢
  rw [hEa,hFb]
  have G5:=Hd9 g5
  clear g5 hMa hEa hNb hFb
  replace L:=L.varI w3.heap.size rfl (ng Ma) A2 (zl Ma) c2 Ea (ng Nb) B2 (zl Nb) d2 Fb
  clear ea eb za zb G9
  obtain ⟨c20,c21,c22⟩:=L.tl.tl.b0.a3
  go_wp2_with fail
  clear c20 c21 c22
  obtain ⟨gy,hgy⟩:=nm9 (w3.heap.size)
  rw [hgy] at L hl9 ⊢
  clear hgy
  have hl_gy:=hl9
  clear hl9
  refine (G2.out _ _ (isD_n (m:=M) (e:=E) (s:=.slice A1 (zl M) c1) (L.getN (by simp)))).mono ?_
  intro e9 w4 hr9
  obtain ⟨x1,y1,ex1,vv,rfl,ii,be⟩:=hr9.ab
  obtain ⟨A6,c6,B6,d6,rfl,ia,ib⟩:=ii.form
  replace L:=((L.step be).n ib).n ia
  clear be ii ia ib hr9
  have hl9:=L.b0.lt
  have g6:=fun vx vl vh W hx hl hh => G5.out x1 y1 vx vl vh W ex1 hx hl hh
  clear ex1 G5
  obtain ⟨M6,hM6⟩:=nm9 (mkM x1 (-(k16:Int)))
  obtain ⟨E6,hE6⟩:=nm9 (mkE x1 (-(k16:Int)))
  obtain ⟨N6,hN6⟩:=nm9 (mkM y1 (-(k16:Int)))
  obtain ⟨F6,hF6⟩:=nm9 (mkE y1 (-(k16:Int)))
  rw [hM6,hE6,hN6,hF6] at g6
  rw [hM6,hN6] at L ⊢
  rw [hE6,hF6]
  have G6:=Hd9 g6
  clear g6 hM6 hE6 hN6 hF6
  replace L:=L.varI w4.heap.size rfl (ng M6) A6 (zl M6) c6 E6 (ng N6) B6 (zl N6) d6 F6
  obtain ⟨c20,c21,c22,c23,c24,c25⟩:=L.tl.tl.b0.a6
  (try go_wp2_with fail)
  clear c20 c21 c22 c23 c24 c25
  obtain ⟨gt,hgt⟩:=nm9 (w4.heap.size)
  rw [hgt] at L hl9 ⊢
  clear hgt
  have hl_gt:=hl9
  clear hl9
  refine (G3.out _ _ (isI_n (m:=M) (e:=E) (n:=M) (f:=E) (s:=.slice A1 (zl M) c1) (t:=.slice A1 (zl M) c1) (L.getN (by simp)) (L.getN (by simp)))).mono ?_
  intro e9 w5 hr9
  obtain ⟨vv,rfl,ii,be⟩:=hr9
  obtain ⟨AG3,cG3,BG3,dG3,rfl,ia,ib⟩:=ii.form
  replace L:=((L.step be).n ib).n ia
  clear be ii ia ib
  have hl9:=L.b0.lt
  replace L:=L.varI w5.heap.size rfl (ng 0) AG3 (zl 0) cG3 0 (ng 0) BG3 (zl 0) dG3 0
  obtain ⟨c30,c31,c32,c33,c34,c35⟩:=L.tl.tl.tl.b0.a6
  (try go_wp2_with fail)
  clear c30 c31 c32 c33 c34 c35
  obtain ⟨gu,hgu⟩:=nm9 (w5.heap.size)
  rw [hgu] at L hl9 ⊢
  clear hgu
  have hl_gu:=hl9
  clear hl9
  refine (G4.out _ _ (isI_n (m:=M) (e:=E) (n:=M) (f:=E) (s:=.slice A1 (zl M) c1) (t:=.slice A1 (zl M) c1) (L.getN (by simp)) (L.getN (by simp)))).mono ?_
  intro e9 w6 hr9
  obtain ⟨vv,rfl,ii,be⟩:=hr9
  obtain ⟨AG4,cG4,BG4,dG4,rfl,ia,ib⟩:=ii.form
  replace L:=((L.step be).n ib).n ia
  clear be ii ia ib
  have hl9:=L.b0.lt
  replace L:=L.varI w6.heap.size rfl (ng 0) AG4 (zl 0) cG4 0 (ng 0) BG4 (zl 0) dG4 0
  obtain ⟨c20,c21,c22,c23,c24,c25⟩:=L.tl.tl.b0.a6
  obtain ⟨c30,c31,c32,c33,c34,c35⟩:=L.tl.tl.tl.b0.a6
  (try go_wp2_with fail)
  clear c20 c21 c22 c23 c24 c25 c30 c31 c32 c33 c34 c35
  obtain ⟨gv,hgv⟩:=nm9 (w6.heap.size)
  rw [hgv] at L hl9 ⊢
  clear hgv
  have hl_gv:=hl9
  clear hl9
  refine (G6.out _ _ _ _ (isI_n (m:=Ma) (e:=Ea) (n:=Nb) (f:=Fb) (s:=.slice A2 (zl Ma) c2) (t:=.slice B2 (zl Nb) d2) (L.getN (by simp)) (L.getN (by simp))) (isI_n (m:=M6) (e:=E6) (n:=N6) (f:=F6) (s:=.slice A6 (zl M6) c6) (t:=.slice B6 (zl N6) d6) (L.getN (by simp)) (L.getN (by simp))) (isI_n (m:=M6) (e:=E6) (n:=N6) (f:=F6) (s:=.slice A6 (zl M6) c6) (t:=.slice B6 (zl N6) d6) (L.getN (by simp)) (L.getN (by simp)))).mono ?_
  rintro e w7 ⟨rfl,be⟩
  replace L:=L.step be
  clear be
  (try go_wp2_with fail)
  (try go_ret)
  exact ⟨rfl,L.below⟩

end Go.Proofs.YtiddbhhhmeopeaaGreatDoor
