/- The reference's DivMod of integers, by a positive one. -/
import Derived.Test.YtiddbhhhmeopeaaGreatDoorBaseFW9
import Derived.Deep.RegionHeld3
import Derived.Deep.DrawnRows
namespace Go.Proofs.YtiddbhhhmeopeaaGreatDoor
set_option maxHeartbeats 64000000
open Go.RowKit
set_option linter.unusedVariables false
set_option linter.unusedSimpArgs false
set_option maxRecDepth 100000
attribute [local go_sem ↓] Go.wp_at_zero Go.wp_at_succ

theorem Lq.five {w0 w:World} {ns:List (Value × Nat)} {zs:List (Value × Int)} {qs:List (Value × Int × Nat)} {p q r s t:Nat × TypeId × Array Value} (h:Lq w0 w ns zs qs [p,q,r,s,t]):Lq w0 w ns zs qs [r,q,p,s,t]:=
 ⟨h.below,h.ns,h.zs,h.qs,fun x hx => h.bs x (by simp only [List.mem_cons] at hx ⊢;rcases hx with h | h | h | h | h | h <;> simp_all)⟩
def RetZZB (w:World) (q r:Int) (e:Ending) (w':World):Prop:=∃ v u,e = .returned (.tuple #[v,u,.bool true])∧IsZ w' v q∧IsZ w' u r∧Below w.heap.size w w'
theorem floor_plus {n m:Int} (hn:ng n = false) (hm:ng m = false):sg false (n.natAbs / m.natAbs) = n / m:=by
 unfold ng at hn hm
 obtain ⟨a,rfl⟩:∃ a:Nat,n = (a:Int):=⟨n.toNat,by simp at hn;omega⟩
 obtain ⟨b,rfl⟩:∃ b:Nat,m = (b:Int):=⟨m.toNat,by simp at hm;omega⟩
 rw [Int.natAbs_natCast,Int.natAbs_natCast]
 show ((a / b:Nat):Int) = _
 exact Int.natCast_ediv a b
theorem floor_even {n m:Int} (hn:ng n = true) (hm:0 < m) (h:n.natAbs % m.natAbs = 0):sg true (n.natAbs / m.natAbs) = n / m:=by
 unfold ng at hn
 obtain ⟨a,rfl⟩:∃ a:Nat,n = -(a:Int):=⟨n.natAbs,by simp at hn;omega⟩
 obtain ⟨b,rfl⟩:∃ b:Nat,m = (b:Int):=⟨m.toNat,by omega⟩
 rw [Int.natAbs_neg,Int.natAbs_natCast,Int.natAbs_natCast] at h ⊢
 show -((a / b:Nat):Int) = _
 have hd:(b:Int) ∣ (a:Int):=Int.natCast_dvd_natCast.2 (Nat.dvd_of_mod_eq_zero h)
 rw [Int.neg_ediv_of_dvd hd,Int.natCast_ediv]
theorem floor_odd {n m:Int} (hn:ng n = true) (hm:0 < m) (h:0 < n.natAbs % m.natAbs):sg true (n.natAbs / m.natAbs) - 1 = n / m:=by
 unfold ng at hn
 obtain ⟨a,rfl⟩:∃ a:Nat,n = -(a:Int):=⟨n.natAbs,by simp at hn;omega⟩
 obtain ⟨b,rfl⟩:∃ b:Nat,m = (b:Int):=⟨m.toNat,by omega⟩
 rw [Int.natAbs_neg,Int.natAbs_natCast,Int.natAbs_natCast] at h ⊢
 show -((a / b:Nat):Int) - 1 = _
 have h1:=Nat.div_add_mod a b
 have h2:a % b < b:=Nat.mod_lt _ (by omega)
 refine (((Int.ediv_emod_unique (a := -(a:Int)) (b:=(b:Int)) (r:=(b:Int) - (a % b:Nat)) (q := -((a / b:Nat):Int) - 1) (by omega)).2 ⟨?_,by omega,by omega⟩).1).symm
 have h3:(b:Int) * ((a / b:Nat):Int) + ((a % b:Nat):Int) = (a:Int):=by rw [← Int.natCast_mul,← Int.natCast_add,h1]
 rw [Int.mul_sub,Int.mul_neg,Int.mul_one]
 omega

theorem rzdivmod_pos (n m:Int) (vn vm:Value) (w:World) (hn:IsZ w vn n) (hm:IsZ w vm m) (ln:zl n≤10000000) (lm:zl m≤10000000) (h0:0 < m) :
  Calls Tryz.prog 179 #[vn,vm] w (RetZZB w (n / m) (n % m)):=by
 obtain ⟨A,c,rfl,in1⟩:=hn.form
 obtain ⟨B,d,rfl,im1⟩:=hm.form
 have hs:ng m = false:=by unfold ng;simp;omega
 have HD:=Hd9 (fun W h1 h2 => rdivmod_any n.natAbs m.natAbs (.slice A (zl n) c) (.slice B (zl m) d) W h1 h2 (Nat.le_trans ln (by omega)) (Nat.le_trans lm (by omega)) (by omega))
 have hq0:len (n.natAbs / m.natAbs)≤10000000:=Nat.le_trans (len_mono (Nat.div_le_self _ _)) ln
 have hF:=fun h => floor_plus (n:=n) (m:=m) h hs
 have hE:=fun h => floor_even (n:=n) (m:=m) h h0
 have hO:=fun h => floor_odd (n:=n) (m:=m) h h0
 have hR:n - n / m * m = n % m:=by rw [Int.emod_def,Int.mul_comm]
 obtain ⟨s,hsn⟩:=nm9 (ng n)
 rw [hsn] at hn hF hE hO ⊢
 rw [hs] at hm ⊢
 generalize n.natAbs / m.natAbs = q0 at *
 generalize n.natAbs % m.natAbs = r0 at *
 generalize n % m = R at *
 generalize n / m = Q at *
 have HN:=Hd9 (fun v W h => rznatN_any s q0 v W h (by omega))
 have HP:=Hd9 (fun W => rzof_any 1 W (by omega) (by omega))
 have HS:=Hd9 (fun v u W h1 h2 => rzsub_any (sg s q0) 1 v u W h1 h2 (by rw [zl_sg];omega) (by have:zl 1≤1:=len_le1 (show 1 < 4294967296 by omega);omega))
 have lQ:zl Q≤10000001:=by
  cases s
  ·rw [← hF rfl,zl_sg];omega
  ·rcases Nat.eq_zero_or_pos r0 with h | h
   ·rw [← hE rfl h,zl_sg];omega
   ·rw [← hO rfl h]
    have h1:=zl_sub (sg true q0) 1
    have h2:zl 1≤1:=len_le1 (show 1 < 4294967296 by omega)
    rw [zl_sg] at h1
    omega
 have lM:=zl_mul Q m
 have HM:=Hd9 (fun v u W h1 h2 => rzmul_any Q m v u W h1 h2 (by omega) (by omega))
 have hT:=fun v u W h1 h2 => rzsub_any n (Q * m) v u W h1 h2 (by omega) (by omega)
 rw [hR] at hT
 have HT:=Hd9 hT
 have HF:=Hd9 hF
 have HE:=Hd9 hE
 have HO:=Hd9 hO
 have L0:=((((Lq.mk0 w).n in1).n im1).z hn).z hm
 clear hn hm in1 im1 hs hsn hT hF hE hO hR lM lQ hq0 h0
 go_enter Tryz.func179,Tryz.ntmps179
 go_wp2_with fail
 have L:=((((L0.varZ (w.heap.size) (by simp) s A (zl n) c).varZ (w.heap.size + 1) (by simp) false B (zl m) d).varZ (w.heap.size + 2) (by simp) false none 0 0).varZ (w.heap.size + 3) (by simp) false none 0 0)
 obtain ⟨c00,c01⟩:=L.b0.a2
 obtain ⟨f00,f01⟩:=L.b0.f2
 obtain ⟨c10,c11⟩:=L.tl.b0.a2
 obtain ⟨c20,c21⟩:=L.tl.tl.b0.a2
 obtain ⟨c30,c31⟩:=L.tl.tl.tl.b0.a2
 refine (HD.out _ (L.getN (by simp)) (L.getN (by simp))).mono ?_
 rintro e w1 ⟨v1,v2,rfl,o1,o2,be⟩
 clear c00 f00 c01 f01 c10 c11 c20 c21 c30 c31
 have i1:IsN w1 v1 q0:=isN_of_own o1 rfl
 have i2:IsN w1 v2 r0:=isN_of_own o2 rfl
 obtain ⟨A2,c2,rfl⟩:=i2.form
 replace L:=((L.step be).n i1).n i2
 clear o1 o2 i1 i2 be
 obtain ⟨c00,c01⟩:=L.b0.a2
 obtain ⟨f00,f01⟩:=L.b0.f2
 obtain ⟨c10,c11⟩:=L.tl.b0.a2
 obtain ⟨c20,c21⟩:=L.tl.tl.b0.a2
 obtain ⟨c30,c31⟩:=L.tl.tl.tl.b0.a2
 cases s
 ·rw [HF.out rfl] at HN
  go_wp2_with fail
  refine (HN.out _ _ (L.getN (by simp))).mono ?_
  rintro e w2 ⟨v3,rfl,iz,be⟩
  clear c00 f00 c01 f01 c10 c11 c20 c21 c30 c31
  replace L:=(L.step be).z iz
  obtain ⟨A3,c3,rfl,_⟩:=iz.form
  clear be iz
  have hlt:=L.b0.lt
  replace L:=L.varZ w2.heap.size rfl (ng (Q)) A3 (zl (Q)) c3
  obtain ⟨c00,c01⟩:=L.b0.a2
  obtain ⟨f00,f01⟩:=L.b0.f2
  obtain ⟨c10,c11⟩:=L.tl.b0.a2
  obtain ⟨c20,c21⟩:=L.tl.tl.b0.a2
  obtain ⟨c30,c31⟩:=L.tl.tl.tl.b0.a2
  obtain ⟨c40,c41⟩:=L.tl.tl.tl.tl.b0.a2
  go_wp2_with fail
  obtain ⟨g,hg⟩:=nm9 (w2.heap.size)
  rw [hg] at L c00 c01 f00 f01 hlt ⊢
  clear hg
  clear c00 f00 c01 f01 c10 c11 c20 c21 c30 c31 c40 c41
  have d0:w.heap.size + 3 < g:=hlt
  obtain ⟨g1,h1⟩:=nm9 (w.heap.size + 1 + 1)
  obtain ⟨g2,h2⟩:=nm9 (w.heap.size + 1 + 1 + 1)
  obtain ⟨g3,h3⟩:=nm9 (w.heap.size + 1)
  replace L:=L.five
  rw [show w.heap.size + 3 = g2 from h2,show w.heap.size + 2 = g1 from h1,h3] at L
  rw [h2,h1,h3]
  have e1:w.heap.size≤g1:=by omega
  have e2:w.heap.size≤g2:=by omega
  have n0:g1 ≠ g2:=by omega
  have n1:g1 ≠ g:=by omega
  have n2:g1 ≠ g3:=by omega
  have n3:g2 ≠ g:=by omega
  have n4:g2 ≠ g3:=by omega
  have n5:g1 ≠ w.heap.size:=by omega
  have n6:g2 ≠ w.heap.size:=by omega
  have n7:g ≠ g3:=by omega
  have n8:g ≠ w.heap.size:=by omega
  clear h1 h2 h3 hlt
  replace L:=L.drew
  go_region_held3 (fun w' => w'.cell? ⟨g,0,none⟩ = some (.bool (ng Q))∧w'.cell? ⟨g,1,none⟩ = some (.slice A3 (zl Q) c3)∧w'.cell? ⟨g3,0,none⟩ = some (.bool false)∧w'.cell? ⟨g3,1,none⟩ = some (.slice B (zl m) d)∧w'.cell? ⟨w.heap.size,0,none⟩ = some (.bool false)∧w'.cell? ⟨w.heap.size,1,none⟩ = some (.slice A (zl n) c)) (first | (with_reducible exact ⟨L.tl.tl.b0.c20,L.tl.tl.b0.c21,L.tl.tl.tl.b0.c20,L.tl.tl.tl.b0.c21,L.tl.tl.tl.tl.b0.c20,L.tl.tl.tl.tl.b0.c21⟩) | exact ⟨L.tl.tl.b0.c20,L.tl.tl.b0.c21,L.tl.tl.tl.b0.c20,L.tl.tl.tl.b0.c21,L.tl.tl.tl.tl.b0.c20,L.tl.tl.tl.tl.b0.c21⟩ | (have LP:=L.putZ e1 (by simp [n0,n1,n2,n5,Ne.symm n0,Ne.symm n1,Ne.symm n2,Ne.symm n5]) (ng Q) A3 (zl Q) c3;exact ⟨LP.tl.tl.b0.c20,LP.tl.tl.b0.c21,LP.tl.tl.tl.b0.c20,LP.tl.tl.tl.b0.c21,LP.tl.tl.tl.tl.b0.c20,LP.tl.tl.tl.tl.b0.c21⟩) | (have LP:=L.putZ e1 (by simp [n0,n1,n2,n5,Ne.symm n0,Ne.symm n1,Ne.symm n2,Ne.symm n5]) (ng Q) A3 (zl Q) c3;have LR:=LP.swap.putZ e2 (by simp [n0,n3,n4,n6,Ne.symm n0,Ne.symm n3,Ne.symm n4,Ne.symm n6]) (ng R) A9 (zl R) c9;exact ⟨LR.tl.tl.b0.c20,LR.tl.tl.b0.c21,LR.tl.tl.tl.b0.c20,LR.tl.tl.tl.b0.c21,LR.tl.tl.tl.tl.b0.c20,LR.tl.tl.tl.tl.b0.c21⟩)) (first | (go_at_call 78;(with_reducible refine (HM.out _ _ _ ?_ ?_).mono ?_);(· (refine L.getZ ?_;(repeat (first | (with_reducible exact mS) | apply mT))));(· (refine L.getZ ?_;(repeat (first | (with_reducible exact mS) | apply mT))));rintro e wh ⟨vh,rfl,iz,be⟩;replace L:=(L.step be).z iz;obtain ⟨A9,c9,rfl,_⟩:=iz.form;clear be iz;(try (obtain ⟨r0,r1⟩:=L.b0.a2;obtain ⟨s0,s1⟩:=L.b0.f2;obtain ⟨t0,t1⟩:=L.tl.b0.a2;obtain ⟨u0,u1⟩:=L.tl.b0.f2))) | (go_at_call 178;(with_reducible refine (HT.out _ _ _ ?_ ?_).mono ?_);(· (refine L.getZ ?_;(repeat (first | (with_reducible exact mS) | apply mT))));(· (refine L.getZ ?_;(repeat (first | (with_reducible exact mS) | apply mT))));rintro e wh ⟨vh,rfl,iz,be⟩;replace L:=(L.step be).z iz;obtain ⟨A9,c9,rfl,_⟩:=iz.form;clear be iz;(try (obtain ⟨r0,r1⟩:=L.b0.a2;obtain ⟨s0,s1⟩:=L.b0.f2;obtain ⟨t0,t1⟩:=L.tl.b0.a2;obtain ⟨u0,u1⟩:=L.tl.b0.f2))))
  go_wp2_with fail
  have LP:=L.putZ e1 (by simp [n0,n1,n2,n5,Ne.symm n0,Ne.symm n1,Ne.symm n2,Ne.symm n5]) (ng Q) A3 (zl Q) c3
  have LR:=LP.swap.putZ e2 (by simp [n0,n3,n4,n6,Ne.symm n0,Ne.symm n3,Ne.symm n4,Ne.symm n6]) (ng R) A9 (zl R) c9
  obtain ⟨k0,k1⟩:=LR.b0.a2
  obtain ⟨j0,j1⟩:=LR.tl.b0.a2
  unfold put2 at k0 k1 j0 j1
  exact bodyPost_ret (v:=.tuple #[.agg #[.bool (ng Q),.slice A3 (zl Q) c3],.agg #[.bool (ng R),.slice A9 (zl R) c9],.bool true]) (by simp [results,Tryz.results179,go_sem,k0,k1,j0,j1]) rfl ⟨_,_,rfl,LR.getZ (by simp),LR.hz,LR.below⟩
 ·rcases Nat.eq_zero_or_pos r0 with hr0 | hr0
  ·subst hr0
   rw [len_zero] at L ⊢
   rw [HE.out rfl rfl] at HN
   go_wp2_with fail
   refine (HN.out _ _ (L.getN (by simp))).mono ?_
   rintro e w2 ⟨v3,rfl,iz,be⟩
   clear c00 f00 c01 f01 c10 c11 c20 c21 c30 c31
   replace L:=(L.step be).z iz
   obtain ⟨A3,c3,rfl,_⟩:=iz.form
   clear be iz
   have hlt:=L.b0.lt
   replace L:=L.varZ w2.heap.size rfl (ng (Q)) A3 (zl (Q)) c3
   obtain ⟨c00,c01⟩:=L.b0.a2
   obtain ⟨f00,f01⟩:=L.b0.f2
   obtain ⟨c10,c11⟩:=L.tl.b0.a2
   obtain ⟨c20,c21⟩:=L.tl.tl.b0.a2
   obtain ⟨c30,c31⟩:=L.tl.tl.tl.b0.a2
   obtain ⟨c40,c41⟩:=L.tl.tl.tl.tl.b0.a2
   go_wp2_with fail
   obtain ⟨g,hg⟩:=nm9 (w2.heap.size)
   rw [hg] at L c00 c01 f00 f01 hlt ⊢
   clear hg
   clear c00 f00 c01 f01 c10 c11 c20 c21 c30 c31 c40 c41
   have d0:w.heap.size + 3 < g:=hlt
   obtain ⟨g1,h1⟩:=nm9 (w.heap.size + 1 + 1)
   obtain ⟨g2,h2⟩:=nm9 (w.heap.size + 1 + 1 + 1)
   obtain ⟨g3,h3⟩:=nm9 (w.heap.size + 1)
   replace L:=L.five
   rw [show w.heap.size + 3 = g2 from h2,show w.heap.size + 2 = g1 from h1,h3] at L
   rw [h2,h1,h3]
   have e1:w.heap.size≤g1:=by omega
   have e2:w.heap.size≤g2:=by omega
   have n0:g1 ≠ g2:=by omega
   have n1:g1 ≠ g:=by omega
   have n2:g1 ≠ g3:=by omega
   have n3:g2 ≠ g:=by omega
   have n4:g2 ≠ g3:=by omega
   have n5:g1 ≠ w.heap.size:=by omega
   have n6:g2 ≠ w.heap.size:=by omega
   have n7:g ≠ g3:=by omega
   have n8:g ≠ w.heap.size:=by omega
   clear h1 h2 h3 hlt
   replace L:=L.drew
   go_region_held3 (fun w' => w'.cell? ⟨g,0,none⟩ = some (.bool (ng Q))∧w'.cell? ⟨g,1,none⟩ = some (.slice A3 (zl Q) c3)∧w'.cell? ⟨g3,0,none⟩ = some (.bool false)∧w'.cell? ⟨g3,1,none⟩ = some (.slice B (zl m) d)∧w'.cell? ⟨w.heap.size,0,none⟩ = some (.bool true)∧w'.cell? ⟨w.heap.size,1,none⟩ = some (.slice A (zl n) c)) (first | (with_reducible exact ⟨L.tl.tl.b0.c20,L.tl.tl.b0.c21,L.tl.tl.tl.b0.c20,L.tl.tl.tl.b0.c21,L.tl.tl.tl.tl.b0.c20,L.tl.tl.tl.tl.b0.c21⟩) | exact ⟨L.tl.tl.b0.c20,L.tl.tl.b0.c21,L.tl.tl.tl.b0.c20,L.tl.tl.tl.b0.c21,L.tl.tl.tl.tl.b0.c20,L.tl.tl.tl.tl.b0.c21⟩ | (have LP:=L.putZ e1 (by simp [n0,n1,n2,n5,Ne.symm n0,Ne.symm n1,Ne.symm n2,Ne.symm n5]) (ng Q) A3 (zl Q) c3;exact ⟨LP.tl.tl.b0.c20,LP.tl.tl.b0.c21,LP.tl.tl.tl.b0.c20,LP.tl.tl.tl.b0.c21,LP.tl.tl.tl.tl.b0.c20,LP.tl.tl.tl.tl.b0.c21⟩) | (have LP:=L.putZ e1 (by simp [n0,n1,n2,n5,Ne.symm n0,Ne.symm n1,Ne.symm n2,Ne.symm n5]) (ng Q) A3 (zl Q) c3;have LR:=LP.swap.putZ e2 (by simp [n0,n3,n4,n6,Ne.symm n0,Ne.symm n3,Ne.symm n4,Ne.symm n6]) (ng R) A9 (zl R) c9;exact ⟨LR.tl.tl.b0.c20,LR.tl.tl.b0.c21,LR.tl.tl.tl.b0.c20,LR.tl.tl.tl.b0.c21,LR.tl.tl.tl.tl.b0.c20,LR.tl.tl.tl.tl.b0.c21⟩)) (first | (go_at_call 78;(with_reducible refine (HM.out _ _ _ ?_ ?_).mono ?_);(· (refine L.getZ ?_;(repeat (first | (with_reducible exact mS) | apply mT))));(· (refine L.getZ ?_;(repeat (first | (with_reducible exact mS) | apply mT))));rintro e wh ⟨vh,rfl,iz,be⟩;replace L:=(L.step be).z iz;obtain ⟨A9,c9,rfl,_⟩:=iz.form;clear be iz;(try (obtain ⟨r0,r1⟩:=L.b0.a2;obtain ⟨s0,s1⟩:=L.b0.f2;obtain ⟨t0,t1⟩:=L.tl.b0.a2;obtain ⟨u0,u1⟩:=L.tl.b0.f2))) | (go_at_call 178;(with_reducible refine (HT.out _ _ _ ?_ ?_).mono ?_);(· (refine L.getZ ?_;(repeat (first | (with_reducible exact mS) | apply mT))));(· (refine L.getZ ?_;(repeat (first | (with_reducible exact mS) | apply mT))));rintro e wh ⟨vh,rfl,iz,be⟩;replace L:=(L.step be).z iz;obtain ⟨A9,c9,rfl,_⟩:=iz.form;clear be iz;(try (obtain ⟨r0,r1⟩:=L.b0.a2;obtain ⟨s0,s1⟩:=L.b0.f2;obtain ⟨t0,t1⟩:=L.tl.b0.a2;obtain ⟨u0,u1⟩:=L.tl.b0.f2))))
   go_wp2_with fail
   have LP:=L.putZ e1 (by simp [n0,n1,n2,n5,Ne.symm n0,Ne.symm n1,Ne.symm n2,Ne.symm n5]) (ng Q) A3 (zl Q) c3
   have LR:=LP.swap.putZ e2 (by simp [n0,n3,n4,n6,Ne.symm n0,Ne.symm n3,Ne.symm n4,Ne.symm n6]) (ng R) A9 (zl R) c9
   obtain ⟨k0,k1⟩:=LR.b0.a2
   obtain ⟨j0,j1⟩:=LR.tl.b0.a2
   unfold put2 at k0 k1 j0 j1
   exact bodyPost_ret (v:=.tuple #[.agg #[.bool (ng Q),.slice A3 (zl Q) c3],.agg #[.bool (ng R),.slice A9 (zl R) c9],.bool true]) (by simp [results,Tryz.results179,go_sem,k0,k1,j0,j1]) rfl ⟨_,_,rfl,LR.getZ (by simp),LR.hz,LR.below⟩
  ·have hlp:=len_pos hr0
   obtain ⟨r,hr⟩:∃ r,len r0 = r + 1:=⟨len r0 - 1,by omega⟩
   have hrz:(0:Int) < (r:Int) + 1:=by omega
   rw [hr] at L ⊢
   rw [HO.out rfl hr0] at HS
   clear hlp hr hr0
   go_wp2_with fail
   refine (HN.out _ _ (L.getN (by simp))).mono ?_
   rintro e w2 ⟨v3,rfl,iz,be⟩
   clear c00 f00 c01 f01 c10 c11 c20 c21 c30 c31
   replace L:=(L.step be).z iz
   obtain ⟨A3,c3,rfl,_⟩:=iz.form
   clear be iz
   have hlt:=L.b0.lt
   replace L:=L.varZ w2.heap.size rfl (ng (sg true q0)) A3 (zl (sg true q0)) c3
   obtain ⟨c00,c01⟩:=L.b0.a2
   obtain ⟨f00,f01⟩:=L.b0.f2
   obtain ⟨c10,c11⟩:=L.tl.b0.a2
   obtain ⟨c20,c21⟩:=L.tl.tl.b0.a2
   obtain ⟨c30,c31⟩:=L.tl.tl.tl.b0.a2
   obtain ⟨c40,c41⟩:=L.tl.tl.tl.tl.b0.a2
   go_wp2_with fail
   obtain ⟨g,hg⟩:=nm9 (w2.heap.size)
   rw [hg] at L c00 c01 f00 f01 hlt ⊢
   clear hg
   have hg0:w.heap.size≤g:=by omega
   have LD:=L.drew
   go_region_with (first | (go_at_call 60;(with_reducible refine (HP.out _).mono ?_);rintro e wh ⟨vh,rfl,iz,be⟩;replace LD:=(LD.step be).z iz;clear be iz;(try (obtain ⟨r0,r1⟩:=LD.b0.a2;obtain ⟨s0,s1⟩:=LD.b0.f2))) | (go_at_call 178;(with_reducible refine (HS.out _ _ _ ?_ ?_).mono ?_);(· (refine LD.getZ ?_;(repeat (first | (with_reducible exact mS) | apply mT))));(· (refine LD.getZ ?_;(repeat (first | (with_reducible exact mS) | apply mT))));rintro e wh ⟨vh,rfl,iz,be⟩;replace LD:=(LD.step be).z iz;obtain ⟨A4,c4,rfl,_⟩:=iz.form;clear be iz;(try (obtain ⟨r0,r1⟩:=LD.b0.a2;obtain ⟨s0,s1⟩:=LD.b0.f2))))
   all_goals
    replace L:=LD.putZ hg0 (by simp;omega) (ng Q) A4 (zl Q) c4
    unfold put2 at L
    clear c00 f00 c01 f01 c10 c11 c20 c21 c30 c31 c40 c41
    clear LD
    go_wp2_with fail
    have d0:w.heap.size + 3 < g:=hlt
    obtain ⟨g1,h1⟩:=nm9 (w.heap.size + 1 + 1)
    obtain ⟨g2,h2⟩:=nm9 (w.heap.size + 1 + 1 + 1)
    obtain ⟨g3,h3⟩:=nm9 (w.heap.size + 1)
    replace L:=L.five
    rw [show w.heap.size + 3 = g2 from h2,show w.heap.size + 2 = g1 from h1,h3] at L
    rw [h2,h1,h3]
    have e1:w.heap.size≤g1:=by omega
    have e2:w.heap.size≤g2:=by omega
    have n0:g1 ≠ g2:=by omega
    have n1:g1 ≠ g:=by omega
    have n2:g1 ≠ g3:=by omega
    have n3:g2 ≠ g:=by omega
    have n4:g2 ≠ g3:=by omega
    have n5:g1 ≠ w.heap.size:=by omega
    have n6:g2 ≠ w.heap.size:=by omega
    have n7:g ≠ g3:=by omega
    have n8:g ≠ w.heap.size:=by omega
    clear h1 h2 h3 hlt
    replace L:=L.drew
    go_region_held3 (fun w' => w'.cell? ⟨g,0,none⟩ = some (.bool (ng Q))∧w'.cell? ⟨g,1,none⟩ = some (.slice A4 (zl Q) c4)∧w'.cell? ⟨g3,0,none⟩ = some (.bool false)∧w'.cell? ⟨g3,1,none⟩ = some (.slice B (zl m) d)∧w'.cell? ⟨w.heap.size,0,none⟩ = some (.bool true)∧w'.cell? ⟨w.heap.size,1,none⟩ = some (.slice A (zl n) c)) (first | (with_reducible exact ⟨L.tl.tl.b0.c20,L.tl.tl.b0.c21,L.tl.tl.tl.b0.c20,L.tl.tl.tl.b0.c21,L.tl.tl.tl.tl.b0.c20,L.tl.tl.tl.tl.b0.c21⟩) | exact ⟨L.tl.tl.b0.c20,L.tl.tl.b0.c21,L.tl.tl.tl.b0.c20,L.tl.tl.tl.b0.c21,L.tl.tl.tl.tl.b0.c20,L.tl.tl.tl.tl.b0.c21⟩ | (have LP:=L.putZ e1 (by simp [n0,n1,n2,n5,Ne.symm n0,Ne.symm n1,Ne.symm n2,Ne.symm n5]) (ng Q) A4 (zl Q) c4;exact ⟨LP.tl.tl.b0.c20,LP.tl.tl.b0.c21,LP.tl.tl.tl.b0.c20,LP.tl.tl.tl.b0.c21,LP.tl.tl.tl.tl.b0.c20,LP.tl.tl.tl.tl.b0.c21⟩) | (have LP:=L.putZ e1 (by simp [n0,n1,n2,n5,Ne.symm n0,Ne.symm n1,Ne.symm n2,Ne.symm n5]) (ng Q) A4 (zl Q) c4;have LR:=LP.swap.putZ e2 (by simp [n0,n3,n4,n6,Ne.symm n0,Ne.symm n3,Ne.symm n4,Ne.symm n6]) (ng R) A9 (zl R) c9;exact ⟨LR.tl.tl.b0.c20,LR.tl.tl.b0.c21,LR.tl.tl.tl.b0.c20,LR.tl.tl.tl.b0.c21,LR.tl.tl.tl.tl.b0.c20,LR.tl.tl.tl.tl.b0.c21⟩)) (first | (go_at_call 78;(with_reducible refine (HM.out _ _ _ ?_ ?_).mono ?_);(· (refine L.getZ ?_;(repeat (first | (with_reducible exact mS) | apply mT))));(· (refine L.getZ ?_;(repeat (first | (with_reducible exact mS) | apply mT))));rintro e wh ⟨vh,rfl,iz,be⟩;replace L:=(L.step be).z iz;obtain ⟨A9,c9,rfl,_⟩:=iz.form;clear be iz;(try (obtain ⟨r0,r1⟩:=L.b0.a2;obtain ⟨s0,s1⟩:=L.b0.f2;obtain ⟨t0,t1⟩:=L.tl.b0.a2;obtain ⟨u0,u1⟩:=L.tl.b0.f2))) | (go_at_call 178;(with_reducible refine (HT.out _ _ _ ?_ ?_).mono ?_);(· (refine L.getZ ?_;(repeat (first | (with_reducible exact mS) | apply mT))));(· (refine L.getZ ?_;(repeat (first | (with_reducible exact mS) | apply mT))));rintro e wh ⟨vh,rfl,iz,be⟩;replace L:=(L.step be).z iz;obtain ⟨A9,c9,rfl,_⟩:=iz.form;clear be iz;(try (obtain ⟨r0,r1⟩:=L.b0.a2;obtain ⟨s0,s1⟩:=L.b0.f2;obtain ⟨t0,t1⟩:=L.tl.b0.a2;obtain ⟨u0,u1⟩:=L.tl.b0.f2))))
    go_wp2_with fail
    have LP:=L.putZ e1 (by simp [n0,n1,n2,n5,Ne.symm n0,Ne.symm n1,Ne.symm n2,Ne.symm n5]) (ng Q) A4 (zl Q) c4
    have LR:=LP.swap.putZ e2 (by simp [n0,n3,n4,n6,Ne.symm n0,Ne.symm n3,Ne.symm n4,Ne.symm n6]) (ng R) A9 (zl R) c9
    obtain ⟨k0,k1⟩:=LR.b0.a2
    obtain ⟨j0,j1⟩:=LR.tl.b0.a2
    unfold put2 at k0 k1 j0 j1
    exact bodyPost_ret (v:=.tuple #[.agg #[.bool (ng Q),.slice A4 (zl Q) c4],.agg #[.bool (ng R),.slice A9 (zl R) c9],.bool true]) (by simp [results,Tryz.results179,go_sem,k0,k1,j0,j1]) rfl ⟨_,_,rfl,LR.getZ (by simp),LR.hz,LR.below⟩

end Go.Proofs.YtiddbhhhmeopeaaGreatDoor
