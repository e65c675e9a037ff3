/- Base texts, joined: RefIvA, RefIvB, RefIvC, MillIv, MillTwoA, IvMath2. -/
import Derived.Test.YtiddbhhhmeopeaaGreatDoorBaseVW9
import Derived.Test.YtiddbhhhmeopeaaGreatDoorBaseEW9
import Derived.Deep.RegionHeld3
import Derived.Deep.DrawnRows
import Derived.Test.YtiddbhhhmeopeaaGreatDoorBaseFW9
import Derived.Deep.Cut
import Derived.Deep.CutRange
/- The reference's Valid, Within, Cmp, Sign, Same, least, greatest. -/
namespace Go.Proofs.YtiddbhhhmeopeaaGreatDoor
set_option maxHeartbeats 64000000
open Go.RowKit
set_option linter.unusedVariables false
set_option linter.unusedSimpArgs false
set_option maxRecDepth 100000
attribute [local go_sem ↓] Go.wp_at_zero Go.wp_at_succ
def RetSg (w:World) (m n:Int) (en:Ending) (w':World):Prop:=en = .returned (.tuple #[.int .i64 (if cmpI m 0 = cmpI n 0 then cmpI m 0 else 0),.bool (decide (cmpI m 0 = cmpI n 0))])∧Below w.heap.size w w'

theorem r10valid_any (m e n f:Int) (vx:Value) (w:World) (hx:IsI w vx m e n f) (lm:zl m≤1000) (ln:zl n≤1000) (he:-70000≤e∧e≤70000) (hf:-70000≤f∧f≤70000) (hv:Dv m e) (hv2:Dv n f) :
  Calls Tryz.prog 49 #[vx] w (RetB w (decide (dcm m e n f≤0))):=by
 obtain ⟨A,c,B,d,rfl,hn1,hn2⟩:=hx.form
 have L0:=((Lq.mk0 w).n hn2).n hn1
 have hok:∀ m e:Int,Dv m e → (if m = 0 then decide (e = 0) else fits8 m e) = true:=fun m e h => by
  rcases h with ⟨h1,h2⟩ | ⟨h1,h2⟩
  ·rw [if_pos h1,h2];rfl
  ·rw [if_neg h1,h2]
 have v1:=fun v W h => rvalid8_d m e v W h (by omega)
 have v2:=fun v W h => rvalid8_d n f v W h (by omega)
 rw [hok m e hv] at v1
 rw [hok n f hv2] at v2
 have V1:=Hd9 v1
 have V2:=Hd9 v2
 have H10:=fun v u W h1 h2 => rcmp8_any m e n f v u W h1 h2 (by omega) (by omega) (by omega) (by omega)
 obtain ⟨x1,hx1⟩:=nm9 (dcm m e n f)
 unfold dcm at hx1
 rw [hx1] at H10
 have H1:=Hd9 H10
 clear H10
 show Calls _ _ _ _ (RetB w (decide (cmpI (m * 2 ^ (e - min e f).toNat) (n * 2 ^ (f - min e f).toNat)≤0)))
 rw [hx1]
 clear v1 v2 hok hx hn1 hn2 hx1 lm ln he hf hv hv2
 go_enter Tryz.func49,Tryz.ntmps49
 go_wp2_with fail
 have L:=(L0.varI (w.heap.size) (by simp) (ng m) A (zl m) c e (ng n) B (zl n) d f)
 obtain ⟨c00,c01,c02,c03,c04,c05⟩:=L.b0.a6
 (try go_wp2_with fail)
 refine (V1.out _ _ (isD_n (m:=m) (e:=e) (s:=.slice A (zl m) c) (L.getN (v:=.slice A (zl m) c) (x:=(m).natAbs) (by simp)))).mono ?_
 rintro e w1 ⟨rfl,be⟩
 clear c00 c01 c02 c03 c04 c05
 replace L:=L.step be
 clear be
 obtain ⟨c00,c01,c02,c03,c04,c05⟩:=L.b0.a6
 (try go_wp2_with fail)
 refine (V2.out _ _ (isD_n (m:=n) (e:=f) (s:=.slice B (zl n) d) (L.getN (v:=.slice B (zl n) d) (x:=(n).natAbs) (by simp)))).mono ?_
 rintro e w2 ⟨rfl,be⟩
 clear c00 c01 c02 c03 c04 c05
 replace L:=L.step be
 clear be
 obtain ⟨c00,c01,c02,c03,c04,c05⟩:=L.b0.a6
 (try go_wp2_with fail)
 refine (H1.out _ _ _ (isD_n (m:=m) (e:=e) (s:=.slice A (zl m) c) (L.getN (v:=.slice A (zl m) c) (x:=(m).natAbs) (by simp))) (isD_n (m:=n) (e:=f) (s:=.slice B (zl n) d) (L.getN (v:=.slice B (zl n) d) (x:=(n).natAbs) (by simp)))).mono ?_
 rintro e w3 ⟨rfl,be⟩
 clear c00 c01 c02 c03 c04 c05
 replace L:=L.step be
 clear be
 obtain ⟨c00,c01,c02,c03,c04,c05⟩:=L.b0.a6
 (try go_wp2_with fail)
 go_ret
 exact ⟨rfl,L.below⟩
end Go.Proofs.YtiddbhhhmeopeaaGreatDoor


/- The reference's Has,Hull,Meet. -/
namespace Go.Proofs.YtiddbhhhmeopeaaGreatDoor
set_option maxHeartbeats 64000000
open Go.RowKit
set_option linter.unusedVariables false
set_option linter.unusedSimpArgs false
set_option maxRecDepth 100000
attribute [local go_sem ↓] Go.wp_at_zero Go.wp_at_succ

theorem r10has_any (m e n f a:Int) (q:Nat) (vx vy:Value) (w:World) (hx:IsI w vx m e n f) (hy:IsP w vy a q) (lm:zl m≤1000) (ln:zl n≤1000) (he:-20000≤e∧e≤20000) (hf:-20000≤f∧f≤20000) (la:zl a≤1000) (lq:len q≤1000) :
  Calls Tryz.prog 40 #[vx,vy] w (RetB w (hasB m e n f a q)):=by
 obtain ⟨A,c,B,d,rfl,hn1,hn2⟩:=hx.form
 obtain ⟨C,k,H,i,rfl,_,_,_⟩:=hy.form
 have L0:=(((Lq.mk0 w).q hy).n hn2).n hn1
 have l1:=zl_two m e.toNat
 have l2:=len_two (-e).toNat
 have l3:=zl_two n f.toNat
 have l4:=len_two (-f).toNat
 have R1:=Hd9 (fun v W h => rrat8_any m e v W h (by omega) (by omega))
 have R2:=Hd9 (fun v W h => rrat8_any n f v W h (by omega) (by omega))
 have h1:=fun v u W h1 h2 => rcmp7_any (m * 2 ^ e.toNat) (2 ^ (-e).toNat) a q v u W h1 h2 (by omega) (by omega) (by omega) (by omega)
 have h2:=fun v u W h1 h2 => rcmp7_any a q (n * 2 ^ f.toNat) (2 ^ (-f).toNat) v u W h1 h2 (by omega) (by omega) (by omega) (by omega)
 obtain ⟨r,hr⟩:=nm9 (hasB m e n f a q)
 rw [hr]
 unfold hasB at hr
 obtain ⟨x1,hx1⟩:=nm9 (cmpI (m * 2 ^ e.toNat * (q:Int)) (a * ((2 ^ (-e).toNat:Nat):Int)))
 obtain ⟨x2,hx2⟩:=nm9 (cmpI (a * ((2 ^ (-f).toNat:Nat):Int)) (n * 2 ^ f.toNat * (q:Int)))
 rw [hx1] at h1 hr
 rw [hx2] at h2 hr
 clear hx1 hx2 l1 l2 l3 l4
 generalize m * 2 ^ e.toNat = p1 at *
 generalize 2 ^ (-e).toNat = p2 at *
 generalize n * 2 ^ f.toNat = p3 at *
 generalize 2 ^ (-f).toNat = p4 at *
 have H1:=Hd9 h1
 have H2:=Hd9 h2
 clear h1 h2 hx hy hn1 hn2 lm ln he hf la lq
 by_cases q1:x1≤0
 ·have b1:decide (x1≤0) = true:=decide_eq_true q1
  rw [b1,Bool.true_and] at hr
  clear q1
  go_enter Tryz.func40,Tryz.ntmps40
  go_wp2_with fail
  have L:=((L0.varI (w.heap.size) (by simp) (ng m) A (zl m) c e (ng n) B (zl n) d f).varQ (w.heap.size + 1) (by simp) (ng a) C H (zl a) k (len q) i)
  replace L:=L.drew
  obtain ⟨c00,c01,c02⟩:=L.b0.a3
  obtain ⟨c10,c11,c12,c13,c14,c15⟩:=L.tl.b0.a6
  go_region_held3 (fun w' => w'.cell? ⟨w.heap.size,0,none⟩ = some (.bool (ng m))∧w'.cell? ⟨w.heap.size,1,none⟩ = some (.slice A (zl m) c)∧w'.cell? ⟨w.heap.size,2,none⟩ = some (.int .i64 e)∧w'.cell? ⟨w.heap.size,3,none⟩ = some (.bool (ng n))∧w'.cell? ⟨w.heap.size,4,none⟩ = some (.slice B (zl n) d)∧w'.cell? ⟨w.heap.size,5,none⟩ = some (.int .i64 f)∧w'.cell? ⟨w.heap.size + 1,0,none⟩ = some (.bool (ng a))∧w'.cell? ⟨w.heap.size + 1,1,none⟩ = some (.slice C (zl a) k)∧w'.cell? ⟨w.heap.size + 1,2,none⟩ = some (.slice H (len q) i)) (first | (with_reducible exact ⟨L.tl.b0.c60,L.tl.b0.c61,L.tl.b0.c62,L.tl.b0.c63,L.tl.b0.c64,L.tl.b0.c65,L.b0.c30,L.b0.c31,L.b0.c32⟩) | exact ⟨L.tl.b0.c60,L.tl.b0.c61,L.tl.b0.c62,L.tl.b0.c63,L.tl.b0.c64,L.tl.b0.c65,L.b0.c30,L.b0.c31,L.b0.c32⟩) (first | (go_at_call 91;(with_reducible refine (R1.out _ _ ?_ ).mono ?_);(· (refine isD_n (L.getN ?_);(repeat (first | (with_reducible exact mS) | apply mT))));rintro e wh ⟨vh,rfl,iq,be⟩;replace L:=(L.step be).q iq;clear be iq) | (go_at_call 90;(with_reducible refine (H1.out _ _ _ ?_ ?_ ).mono ?_);(· (refine L.getQ ?_;(repeat (first | (with_reducible exact mS) | apply mT))));(· (refine L.getQ ?_;(repeat (first | (with_reducible exact mS) | apply mT))));rintro e wh ⟨rfl,be⟩;replace L:=L.step be;clear be) | (go_at_call 91;(with_reducible refine (R2.out _ _ ?_ ).mono ?_);(· (refine isD_n (L.getN ?_);(repeat (first | (with_reducible exact mS) | apply mT))));rintro e wh ⟨vh,rfl,iq,be⟩;replace L:=(L.step be).q iq;clear be iq) | (go_at_call 90;(with_reducible refine (H2.out _ _ _ ?_ ?_ ).mono ?_);(· (refine L.getQ ?_;(repeat (first | (with_reducible exact mS) | apply mT))));(· (refine L.getQ ?_;(repeat (first | (with_reducible exact mS) | apply mT))));rintro e wh ⟨rfl,be⟩;replace L:=L.step be;clear be))
  clear c00 c01 c02 c10 c11 c12 c13 c14 c15
  go_wp2_with fail
  rw [← hr]
  go_ret
  exact ⟨rfl,L.below⟩
 ·have b1:decide (x1≤0) = false:=decide_eq_false q1
  rw [b1,Bool.false_and] at hr
  subst hr
  clear q1
  go_enter Tryz.func40,Tryz.ntmps40
  go_wp2_with fail
  have L:=((L0.varI (w.heap.size) (by simp) (ng m) A (zl m) c e (ng n) B (zl n) d f).varQ (w.heap.size + 1) (by simp) (ng a) C H (zl a) k (len q) i)
  replace L:=L.drew
  obtain ⟨c00,c01,c02⟩:=L.b0.a3
  obtain ⟨c10,c11,c12,c13,c14,c15⟩:=L.tl.b0.a6
  refine wp_region_noPanic ?_
  refine wp_region_held_drew (S:=fun w' => w'.cell? ⟨w.heap.size,0,none⟩ = some (.bool (ng m))∧w'.cell? ⟨w.heap.size,1,none⟩ = some (.slice A (zl m) c)∧w'.cell? ⟨w.heap.size,2,none⟩ = some (.int .i64 e)∧w'.cell? ⟨w.heap.size,3,none⟩ = some (.bool (ng n))∧w'.cell? ⟨w.heap.size,4,none⟩ = some (.slice B (zl n) d)∧w'.cell? ⟨w.heap.size,5,none⟩ = some (.int .i64 f)∧w'.cell? ⟨w.heap.size + 1,0,none⟩ = some (.bool (ng a))∧w'.cell? ⟨w.heap.size + 1,1,none⟩ = some (.slice C (zl a) k)∧w'.cell? ⟨w.heap.size + 1,2,none⟩ = some (.slice H (len q) i)) (by kernel_rfl) ?hS (fun hHeld => ?rest)
  case hS => exact ⟨L.tl.b0.c60,L.tl.b0.c61,L.tl.b0.c62,L.tl.b0.c63,L.tl.b0.c64,L.tl.b0.c65,L.b0.c30,L.b0.c31,L.b0.c32⟩
  case rest =>
   refine wpAnyH_take (i:=0) (oi:={ dst:=some 5,op:=_,type:=_,pos:=_,after:=_,guard:=_ }) (v:=?v0) rfl (by kernel_rfl) (by kernel_rfl) (by kernel_rfl) (fun _ _ _ h => h) (Or.inl ⟨by rfl,?hy0⟩) (by assumption) ?rest0
   case hy0 => (intro w hSw;(try dsimp only at hSw);go_simp;(try with_reducible rfl))
   case rest0 =>
    (try simp only [Act.put,List.setIfInBounds_toArray,List.set_cons_zero,List.set_cons_succ])
    refine wpAnyH_take (i:=1) (oi:={ dst:=some 6,op:=_,type:=_,pos:=_,after:=_,guard:=_ }) (v:=?v1) rfl (by kernel_rfl) (by kernel_rfl) (by kernel_rfl) (fun _ _ _ h => h) (Or.inl ⟨by rfl,?hy1⟩) (by assumption) ?rest1
    case hy1 => (intro w hSw;(try dsimp only at hSw);go_simp;(try with_reducible rfl))
    case rest1 =>
     (try simp only [Act.put,List.setIfInBounds_toArray,List.set_cons_zero,List.set_cons_succ])
     refine wpAnyH_take (i:=3) (oi:={ dst:=some 8,op:=_,type:=_,pos:=_,after:=_,guard:=_ }) (v:=?v3) rfl (by kernel_rfl) (by kernel_rfl) (by kernel_rfl) (fun _ _ _ h => h) (Or.inl ⟨by rfl,?hy3⟩) (by assumption) ?rest3
     case hy3 => (intro w hSw;(try dsimp only at hSw);go_simp;(try with_reducible rfl))
     case rest3 =>
      (try simp only [Act.put,List.setIfInBounds_toArray,List.set_cons_zero,List.set_cons_succ])
      refine wpAnyH_ready (rs:=[2]) (by kernel_rfl) (by simp) ?_
      refine AllReadyH.cons rfl (fun K hK => ?_) AllReadyH.nil
      go_simp
      go_at_call 91
      refine (R1.out _ _ ?_ ).mono ?_
      ·(refine isD_n (L.getN ?_);(repeat (first | (with_reducible exact mS) | apply mT)))
      rintro e wh ⟨vh,rfl,iq,be⟩
      replace L:=(L.step be).q iq
      clear be iq
      go_wp2_with fail
      refine hK.out _ _ (by first | (with_reducible exact ⟨L.tl.b0.c60,L.tl.b0.c61,L.tl.b0.c62,L.tl.b0.c63,L.tl.b0.c64,L.tl.b0.c65,L.b0.c30,L.b0.c31,L.b0.c32⟩) | exact ⟨L.tl.b0.c60,L.tl.b0.c61,L.tl.b0.c62,L.tl.b0.c63,L.tl.b0.c64,L.tl.b0.c65,L.b0.c30,L.b0.c31,L.b0.c32⟩) (fun hHeld2 => ?_)
      clear hK K hHeld
      have hHeld:=hHeld2
      clear hHeld2
      (try simp only [Act.put,List.setIfInBounds_toArray,List.set_cons_zero,List.set_cons_succ])
      refine wpAnyH_ready (rs:=[4]) (by kernel_rfl) (by simp) ?_
      refine AllReadyH.cons rfl (fun K hK => ?_) AllReadyH.nil
      go_simp
      go_at_call 90
      refine (H1.out _ _ _ ?_ ?_ ).mono ?_
      ·(refine L.getQ ?_;(repeat (first | (with_reducible exact mS) | apply mT)))
      ·(refine L.getQ ?_;(repeat (first | (with_reducible exact mS) | apply mT)))
      rintro e wh ⟨rfl,be⟩
      replace L:=L.step be
      clear be
      go_wp2_with fail
      refine hK.out _ _ (by first | (with_reducible exact ⟨L.tl.b0.c60,L.tl.b0.c61,L.tl.b0.c62,L.tl.b0.c63,L.tl.b0.c64,L.tl.b0.c65,L.b0.c30,L.b0.c31,L.b0.c32⟩) | exact ⟨L.tl.b0.c60,L.tl.b0.c61,L.tl.b0.c62,L.tl.b0.c63,L.tl.b0.c64,L.tl.b0.c65,L.b0.c30,L.b0.c31,L.b0.c32⟩) (fun hHeld2 => ?_)
      clear hK K hHeld
      have hHeld:=hHeld2
      clear hHeld2
      (try simp only [Act.put,List.setIfInBounds_toArray,List.set_cons_zero,List.set_cons_succ])
      refine wpAnyH_take (i:=5) (oi:={ dst:=some 10,op:=_,type:=_,pos:=_,after:=_,guard:=_ }) (v:=?v5) rfl (by kernel_rfl) (by kernel_rfl) (by kernel_rfl) (fun _ _ _ h => h) (Or.inl ⟨by rfl,?hy5⟩) (by assumption) ?rest5
      case hy5 => (intro w hSw;(try dsimp only at hSw);go_simp;(try with_reducible rfl))
      case rest5 =>
       (try simp only [Act.put,List.setIfInBounds_toArray,List.set_cons_zero,List.set_cons_succ])
       refine wpAnyH_take (i:=6) (oi:={ dst:=some 11,op:=_,type:=_,pos:=_,after:=_,guard:=_ }) (v:=?v6) rfl (by kernel_rfl) (by kernel_rfl) (by kernel_rfl) (fun _ _ _ h => h) (Or.inl ⟨by rfl,?hy6⟩) (by assumption) ?rest6
       case hy6 => (intro w hSw;(try dsimp only at hSw);go_simp;(try with_reducible rfl))
       case rest6 =>
        (try simp only [Act.put,List.setIfInBounds_toArray,List.set_cons_zero,List.set_cons_succ])
        refine wpAnyH_take (i:=7) (oi:={ dst:=some 12,op:=_,type:=_,pos:=_,after:=_,guard:=_ }) (v:=undef) rfl (by kernel_rfl) (by kernel_rfl) (by kernel_rfl) (fun _ _ _ h => h) (Or.inr ⟨by rfl,rfl⟩) (by assumption) ?_
        (try simp only [Act.put,List.setIfInBounds_toArray,List.set_cons_zero,List.set_cons_succ])
        refine wpAnyH_take (i:=8) (oi:={ dst:=some 13,op:=_,type:=_,pos:=_,after:=_,guard:=_ }) (v:=undef) rfl (by kernel_rfl) (by kernel_rfl) (by kernel_rfl) (fun _ _ _ h => h) (Or.inr ⟨by rfl,rfl⟩) (by assumption) ?_
        (try simp only [Act.put,List.setIfInBounds_toArray,List.set_cons_zero,List.set_cons_succ])
        refine wpAnyH_take (i:=9) (oi:={ dst:=some 14,op:=_,type:=_,pos:=_,after:=_,guard:=_ }) (v:=undef) rfl (by kernel_rfl) (by kernel_rfl) (by kernel_rfl) (fun _ _ _ h => h) (Or.inr ⟨by rfl,rfl⟩) (by assumption) ?_
        (try simp only [Act.put,List.setIfInBounds_toArray,List.set_cons_zero,List.set_cons_succ])
        refine wpAnyH_take (i:=10) (oi:={ dst:=some 15,op:=_,type:=_,pos:=_,after:=_,guard:=_ }) (v:=undef) rfl (by kernel_rfl) (by kernel_rfl) (by kernel_rfl) (fun _ _ _ h => h) (Or.inr ⟨by rfl,rfl⟩) (by assumption) ?_
        (try simp only [Act.put,List.setIfInBounds_toArray,List.set_cons_zero,List.set_cons_succ])
        refine wpAnyH_take (i:=11) (oi:={ dst:=some 16,op:=_,type:=_,pos:=_,after:=_,guard:=_ }) (v:=undef) rfl (by kernel_rfl) (by kernel_rfl) (by kernel_rfl) (fun _ _ _ h => h) (Or.inr ⟨by rfl,rfl⟩) (by assumption) ?_
        (try simp only [Act.put,List.setIfInBounds_toArray,List.set_cons_zero,List.set_cons_succ])
        refine wpAnyH_take (i:=12) (oi:={ dst:=some 17,op:=_,type:=_,pos:=_,after:=_,guard:=_ }) (v:=undef) rfl (by kernel_rfl) (by kernel_rfl) (by kernel_rfl) (fun _ _ _ h => h) (Or.inr ⟨by rfl,rfl⟩) (by assumption) ?_
        (try simp only [Act.put,List.setIfInBounds_toArray,List.set_cons_zero,List.set_cons_succ])
        refine wpAnyH_take (i:=13) (oi:={ dst:=some 18,op:=_,type:=_,pos:=_,after:=_,guard:=_ }) (v:=?v13) rfl (by kernel_rfl) (by kernel_rfl) (by kernel_rfl) (fun _ _ _ h => h) (Or.inl ⟨by rfl,?hy13⟩) (by assumption) ?rest13
        case hy13 => (intro w hSw;(try dsimp only at hSw);go_simp;(try with_reducible rfl))
        case rest13 =>
         (try simp only [Act.put,List.setIfInBounds_toArray,List.set_cons_zero,List.set_cons_succ])
         refine wpAnyH_take (i:=14) (oi:={ dst:=some 4,op:=_,type:=_,pos:=_,after:=_,guard:=_ }) (v:=?v14) rfl (by kernel_rfl) (by kernel_rfl) (by kernel_rfl) (fun _ _ _ h => h) (Or.inl ⟨by rfl,?hy14⟩) (by assumption) ?rest14
         case hy14 => (intro w hSw;(try dsimp only at hSw);go_simp;(try with_reducible rfl))
         case rest14 =>
          (try simp only [Act.put,List.setIfInBounds_toArray,List.set_cons_zero,List.set_cons_succ])
          refine wpAnyH_done (by kernel_rfl) ?_ _
          refine NoPanic.normal ?_
          go_wp2_with fail
          go_ret
          exact ⟨rfl,L.below⟩
end Go.Proofs.YtiddbhhhmeopeaaGreatDoor


/- The reference's Shift,Width,Mid. -/
namespace Go.Proofs.YtiddbhhhmeopeaaGreatDoor
set_option maxHeartbeats 64000000
open Go.RowKit
set_option linter.unusedVariables false
set_option linter.unusedSimpArgs false
set_option maxRecDepth 100000
attribute [local go_sem ↓] Go.wp_at_zero Go.wp_at_succ

theorem rshift8_any (m e k:Int) (vx:Value) (w:World) (hx:IsD w vx m e) (lm:zl m≤100000) (he:-1000000≤e∧e≤1000000) (hk:-65536≤k∧k≤65536) :
  Calls Tryz.prog 20 #[vx,.int .i64 k] w (RetDE w (mkM m (e + k)) (mkE m (e + k)) (mkR m (e + k))):=by
 obtain ⟨A,c,rfl,hz,hn⟩:=hx.form
 have L0:=(Lq.mk0 w).z hz
 obtain ⟨s,hs⟩:=nm9 (e + k)
 have hw:IntKind.i64.wrap (e + k) = s:=by rw [← hs,IntKind.wrap_i64];omega
 have b1:decide (k < -65536) = false:=decide_eq_false (by omega)
 have b2:decide (65536 < k) = false:=decide_eq_false (by omega)
 have HM0:=fun v W h => rmake8_any m s v W h (by omega)
 rw [hs]
 generalize mkM m s = M at *
 generalize mkE m s = E at *
 generalize mkR m s = R at *
 have HM:=Hd9 HM0
 clear HM0 hs hx hz hn lm he hk
 go_enter Tryz.func20,Tryz.ntmps20
 go_wp2_with fail
 have L:=((L0.varD (w.heap.size) (by simp) (ng m) A (zl m) c e).varD (w.heap.size + 1) (by simp) false none 0 0 0)
 obtain ⟨c00,c01,c02⟩:=L.b0.a3
 obtain ⟨f00,f01,f02⟩:=L.b0.f3
 obtain ⟨c10,c11,c12⟩:=L.tl.b0.a3
 obtain ⟨f10,f11,f12⟩:=L.tl.b0.f3
 (try go_wp2_with fail)
 refine (HM.out _ _ (L.getZ (v:=.agg #[.bool (ng m),.slice A (zl m) c]) (by simp))).mono ?_
 rintro e w1 ⟨v8,rfl,id,be⟩
 clear c00 f00 c01 f01 c02 f02 c10 f10 c11 f11 c12 f12
 obtain ⟨A9,c9,rfl,_,in9⟩:=id.form
 replace L:=(L.step be).n in9
 clear be in9 id
 obtain ⟨c00,c01,c02⟩:=L.b0.a3
 obtain ⟨f00,f01,f02⟩:=L.b0.f3
 obtain ⟨c10,c11,c12⟩:=L.tl.b0.a3
 (try go_wp2_with fail)
 have LP:=L.putD (by omega) (by first | (simp;done) | (simp;omega)) (ng M) A9 (zl M) c9 (E)
 obtain ⟨k0,k1,k2⟩:=LP.b0.a3
 unfold put3 at k0 k1 k2
 exact bodyPost_ret (v:=.tuple #[.agg #[.bool (ng M),.slice A9 (zl M) c9,.int .i64 (E)],.int .i64 R]) (by simp [results,Tryz.results20,go_sem,k0,k1,k2]) rfl ⟨_,rfl,isD_n LP.hn,LP.below⟩
end Go.Proofs.YtiddbhhhmeopeaaGreatDoor


/- The mill's intervals;the laws' two,and their interval between two integers. -/
namespace Go.Proofs.YtiddbhhhmeopeaaGreatDoor
set_option maxHeartbeats 64000000
open Go.RowKit
set_option linter.unusedVariables false
set_option linter.unusedSimpArgs false
set_option maxRecDepth 100000
attribute [local go_sem ↓] Go.wp_at_zero Go.wp_at_succ

end Go.Proofs.YtiddbhhhmeopeaaGreatDoor


/- The laws' pair of intervals. -/
namespace Go.Proofs.YtiddbhhhmeopeaaGreatDoor
set_option maxHeartbeats 64000000
open Go.RowKit
set_option linter.unusedVariables false
set_option linter.unusedSimpArgs false
set_option maxRecDepth 100000
attribute [local go_sem ↓] Go.wp_at_zero Go.wp_at_succ

end Go.Proofs.YtiddbhhhmeopeaaGreatDoor


/- What the walks of layer 10's laws lean on. -/
namespace Go.Proofs.YtiddbhhhmeopeaaGreatDoor
set_option maxHeartbeats 64000000
open Go.RowKit
set_option linter.unusedVariables false
set_option linter.unusedSimpArgs false
set_option maxRecDepth 100000
attribute [local go_sem ↓] Go.wp_at_zero Go.wp_at_succ

theorem dcm_zero (n f:Int):dcm n f 0 0 = cmpI n 0:=by
 unfold dcm
 have h:=cmpI_scale n 0 (pow2_pos (f - min f 0).toNat)
 rw [Int.zero_mul] at h ⊢
 exact h
end Go.Proofs.YtiddbhhhmeopeaaGreatDoor

