/- Joined: CoA, CoM, RefCoA, RefExA, RefExN, CpN, ExM, ExA, ExZ, ExP, ExY, NrA, LnM, AtM, RdA, AtN, AtO (what the law leans on). -/
import Derived.Test.YtiddbhhhmeopeaaGreatDoorBaseIW9
import Derived.Test.YtiddbhhhmeopeaaGreatDoorBaseJW9
import Derived.Test.YtiddbhhhmeopeaaGreatDoorBaseEW9
import Derived.Test.YtiddbhhhmeopeaaGreatDoorBaseMW9
import Derived.Test.YtiddbhhhmeopeaaGreatDoorBaseVW9
import Derived.Test.YtiddbhhhmeopeaaGreatDoorBaseSW9
import Derived.Test.YtiddbhhhmeopeaaGreatDoorBaseWW9
import Derived.Test.YtiddbhhhmeopeaaGreatDoorRefGrAW9
import Derived.Test.YtiddbhhhmeopeaaGreatDoorRefGrBW9
import Derived.Test.YtiddbhhhmeopeaaGreatDoorBaseXW9
import Derived.Deep.DrawnRows
import Derived.Deep.RegionHeld3
namespace Go.Proofs.YtiddbhhhmeopeaaGreatDoor
set_option maxHeartbeats 64000000
open Go.RowKit
set_option linter.unusedVariables false
set_option linter.unusedSimpArgs false
set_option maxRecDepth 100000
attribute [local go_sem ↓] Go.wp_at_zero Go.wp_at_succ
def IsS (w:World) (v:Value) (a b:Int):Prop:=∃ s t,v = .agg #[.bool (ng a),s,.bool (ng b),t]∧IsN w s a.natAbs∧IsN w t b.natAbs
theorem IsS.mono {w w':World} {v:Value} {a b:Int} (h:IsS w v a b) (hb:Below w.heap.size w w'):IsS w' v a b:=by
 obtain ⟨s,t,r,hs,ht⟩:=h
 exact ⟨s,t,r,hs.mono hb,ht.mono hb⟩
theorem IsS.form {w:World} {v:Value} {a b:Int} (h:IsS w v a b):∃ A c B d,v = .agg #[.bool (ng a),.slice A (zl a) c,.bool (ng b),.slice B (zl b) d]∧IsN w (.slice A (zl a) c) a.natAbs∧IsN w (.slice B (zl b) d) b.natAbs:=by
 obtain ⟨s,t,r,hs,ht⟩:=h
 obtain ⟨A,c,e1⟩:=hs.form
 obtain ⟨B,d,e2⟩:=ht.form
 subst e1 e2
 exact ⟨A,c,B,d,r,hs,ht⟩
theorem isS_n {w:World} {s t:Value} {a b:Int} (h:IsN w s a.natAbs) (h2:IsN w t b.natAbs):IsS w (.agg #[.bool (ng a),s,.bool (ng b),t]) a b:=⟨s,t,rfl,h,h2⟩
theorem plain4 (b:Bool) (A:Option Addr) (p c:Nat) (b':Bool) (B:Option Addr) (q d:Nat):Plain #[.bool b,.slice A p c,.bool b',.slice B q d]:=fun j x => by
 match j with
 | 0 => simp
 | 1 => simp
 | 2 => simp
 | 3 => simp
 | j + 4 => simp
def put4 (w:World) (g:Nat) (b:Bool) (s:Value) (b':Bool) (t:Value):World:=(((w.setCell ⟨g,0,none⟩ (.bool b)).setCell ⟨g,1,none⟩ s).setCell ⟨g,2,none⟩ (.bool b')).setCell ⟨g,3,none⟩ t
section
variable {w0 w:World} {ns:List (Value × Nat)} {zs:List (Value × Int)} {qs:List (Value × Int × Nat)} {bs:List (Nat × TypeId × Array Value)}
theorem Lq.varS (h:Lq w0 w ns zs qs bs) (g:Nat) (hg:g = w.heap.size) (b:Bool) (A:Option Addr) (p c:Nat) (b':Bool) (B:Option Addr) (q d:Nat):Lq w0 (w.alloc (.cells #[.bool b,.slice A p c,.bool b',.slice B q d] 53)) ns zs qs ((g,53,#[.bool b,.slice A p c,.bool b',.slice B q d]) :: bs):=h.var g hg _ _ (plain4 _ _ _ _ _ _ _ _)
theorem Lq.putS {g:Nat} {b b':Bool} {s t:Value} (h:Lq w0 w ns zs qs ((g,53,#[.bool b,s,.bool b',t]) :: bs)) (hg:w0.heap.size≤g) (hd:∀ p ∈ bs,p.1 ≠ g) (b1:Bool) (A:Option Addr) (p c:Nat) (b2:Bool) (B:Option Addr) (q d:Nat) :
  Lq w0 (put4 w g b1 (.slice A p c) b2 (.slice B q d)) ns zs qs ((g,53,#[.bool b1,.slice A p c,.bool b2,.slice B q d]) :: bs):=
 (((h.set hg hd 0 (.bool b1) (by intro x e;cases e)).set hg hd 1 (.slice A p c) (by intro x e;cases e)).set hg hd 2 (.bool b2) (by intro x e;cases e)).set hg hd 3 (.slice B q d) (by intro x e;cases e)
theorem Dq.boxS (h:Dq w0 w ns zs qs bs) (b:Bool) (A:Option Addr) (p c:Nat) (b':Bool) (B:Option Addr) (q d:Nat):Dq w0 (w.alloc (.cells #[.bool b,.slice A p c,.bool b',.slice B q d] 53)) ns zs qs ((w.heap.size,53,#[.bool b,.slice A p c,.bool b',.slice B q d]) :: bs):=by
 refine ⟨h.lq.varS w.heap.size rfl b A p c b' B q d,?_,fun p hp => ?_⟩
 ·rw [List.map_cons,List.nodup_cons]
  refine ⟨fun hm => ?_,h.nodup⟩
  obtain ⟨p,hp,e⟩:=List.mem_map.1 hm
  have:=(h.lq.bs p hp).lt
  omega
 ·rcases List.mem_cons.1 hp with rfl | hp
  ·exact h.lq.below.size
  ·exact h.ge p hp
end
theorem Var.c40 {w:World} {g:Nat} {ty:TypeId} {x0 x1 x2 x3:Value} (h:Var w g ty #[x0,x1,x2,x3]):w.cell? ⟨g,0,none⟩ = some x0:=h.cell 0
theorem Var.c41 {w:World} {g:Nat} {ty:TypeId} {x0 x1 x2 x3:Value} (h:Var w g ty #[x0,x1,x2,x3]):w.cell? ⟨g,1,none⟩ = some x1:=h.cell 1
theorem Var.c42 {w:World} {g:Nat} {ty:TypeId} {x0 x1 x2 x3:Value} (h:Var w g ty #[x0,x1,x2,x3]):w.cell? ⟨g,2,none⟩ = some x2:=h.cell 2
theorem Var.c43 {w:World} {g:Nat} {ty:TypeId} {x0 x1 x2 x3:Value} (h:Var w g ty #[x0,x1,x2,x3]):w.cell? ⟨g,3,none⟩ = some x3:=h.cell 3
def RetSp (w:World) (a b:Int) (en:Ending) (w':World):Prop:=∃ v,en = .returned v∧IsS w' v a b∧Below w.heap.size w w'
def cdv (x n:Int):Int := -(-x / n)
theorem cdv_le {x n k:Int} (hn:0 < n):cdv x n≤k ↔ x≤k * n:=by
 unfold cdv
 have h:-k≤-x / n ↔ -k * n≤-x:=Int.le_ediv_iff_mul_le hn
 rw [Int.neg_mul] at h
 omega
theorem le_cdv {x n:Int} (hn:0 < n):x≤cdv x n * n:=(cdv_le hn).1 (Int.le_refl _)
theorem div_cdv {x y n:Int} (hn:0 < n) (h:x≤y):x / n≤cdv y n:=by
 have h1:=Int.ediv_mul_le x (show n ≠ 0 by omega)
 have h2:=le_cdv (x:=y) hn
 exact Int.le_of_mul_le_mul_right (Int.le_trans h1 (Int.le_trans h h2)) hn
theorem cdv_one (x:Int):cdv x 1 = x:=by unfold cdv;simp
def tnB (a b:Int):Bool:=decide (a.natAbs≤1) && decide (b.natAbs≤1)
def AbP (x:Int) (j:Nat):Prop:=x.natAbs≤2 ^ j
theorem AbP.zl {x:Int} {j:Nat} (h:AbP x j):zl x≤j / 32 + 1:=Nat.le_trans (len_mono h) (len_two j)
theorem AbP.up {x:Int} {j k:Nat} (h:AbP x j) (hk:j≤k):AbP x k:=Nat.le_trans h (Nat.pow_le_pow_right (by omega) hk)
theorem AbP.add {x y:Int} {j:Nat} (h1:AbP x j) (h2:AbP y j):AbP (x + y) (j + 1):=by
 unfold AbP at *
 rw [Nat.pow_succ]
 omega
theorem AbP.neg {x:Int} {j:Nat} (h:AbP x j):AbP (-x) j:=by
 unfold AbP at *
 rw [Int.natAbs_neg];exact h
theorem AbP.zero (j:Nat):AbP 0 j:=Nat.zero_le _
theorem AbP.mul {x y:Int} {j k:Nat} (h1:AbP x j) (h2:AbP y k):AbP (x * y) (j + k):=by
 unfold AbP at *
 rw [Int.natAbs_mul,Nat.pow_add]
 exact Nat.mul_le_mul h1 h2
def Tm (a b:Int) (f:Nat):Prop:=0≤a∧a≤b∧b≤((2 ^ f:Nat):Int)
theorem Tm.abs {a b:Int} {f:Nat} (h:Tm a b f):AbP a f∧AbP b f:=by
 unfold Tm at h;unfold AbP
 obtain ⟨P,hP⟩:∃ P:Nat,2 ^ f = P:=⟨_,rfl⟩
 rw [hP] at h ⊢
 omega
theorem Tm.up {a b:Int} {f g:Nat} (h:Tm a b f) (hg:f≤g):Tm a b g:=by
 have:=Nat.pow_le_pow_right (n:=2) (by omega) hg
 unfold Tm at *
 obtain ⟨P,hP⟩:∃ P:Nat,2 ^ f = P:=⟨_,rfl⟩
 obtain ⟨Q,hQ⟩:∃ P:Nat,2 ^ g = P:=⟨_,rfl⟩
 rw [hP] at this h
 rw [hQ] at this ⊢
 omega
theorem Tm.low {a b n:Int} {f:Nat} (hn:0 < n) (h:Tm a b f):Tm (a / n) (cdv b n) f:=by
 refine ⟨Int.ediv_nonneg h.1 (by omega),div_cdv hn h.2.1,(cdv_le hn).2 (Int.le_trans h.2.2 ?_)⟩
 have h0:(0:Int)≤((2 ^ f:Nat):Int):=Int.natCast_nonneg _
 have:=Int.mul_le_mul_of_nonneg_left (show (1:Int)≤n by omega) h0
 rwa [Int.mul_one] at this
theorem Tm.half {a b n:Int} {f:Nat} (hn:2≤n) (h:Tm a b (f + 1)):Tm (a / n) (cdv b n) f:=by
 refine ⟨Int.ediv_nonneg h.1 (by omega),div_cdv (by omega) h.2.1,(cdv_le (by omega)).2 (Int.le_trans h.2.2 ?_)⟩
 have h0:(0:Int)≤((2 ^ f:Nat):Int):=Int.natCast_nonneg _
 have:=Int.mul_le_mul_of_nonneg_left hn h0
 rw [Nat.pow_succ]
 omega
theorem Tm.pos {a b:Int} {f:Nat} (h:Tm a b f) (ht:tnB a b = false):∃ g,f = g + 1:=by
  match f with
  | g + 1 => exact ⟨g,rfl⟩
  | 0 =>
    have e:((2 ^ 0:Nat):Int) = 1:=rfl
    obtain ⟨h0,h1,h2⟩:=h
    rw [e] at h2
    unfold tnB at ht
    rw [decide_eq_true (show a.natAbs≤1 by omega),decide_eq_true (show b.natAbs≤1 by omega)] at ht
    cases ht
theorem tm_one (v:Nat):Tm (2 ^ v) (2 ^ v) v:=by
 have e:((2 ^ v:Nat):Int) = 2 ^ v:=by simp
 have:=pow2_pos v
 unfold Tm
 omega
def atR (n:Int):Nat → Nat → Int → Int → Int → Int → Int × Int
 | 0,_,_,_,s,u => (s,u)
 | f + 1,k,a,b,s,u => if tnB a b then (s,u) else if k % 2 = 1 then atR n f (k + 1) (a / n / n) (cdv (cdv b n) n) (s + -(cdv b (2 * k + 1))) (u + -(a / (2 * k + 1))) else atR n f (k + 1) (a / n / n) (cdv (cdv b n) n) (s + a / (2 * k + 1)) (u + cdv b (2 * k + 1))
theorem atR_end {n:Int} {f k:Nat} {a b s u:Int} (h:tnB a b = true):atR n f k a b s u = (s,u):=by
 cases f <;> simp [atR,h]
def SeI (v f k:Nat) (a b s u:Int):Prop:=Tm a b f∧(f≤v∧f + k≤v + 3)∧AbP s (v + k)∧AbP u (v + k)
theorem SeI.sizes {v f k:Nat} {a b s u:Int} (h:SeI v f k a b s u) (hv:v≤10000):zl a≤400∧zl b≤400∧zl s≤700∧zl u≤700∧a≤b∧k≤10003:=by
 obtain ⟨h1,h2,h3,h4⟩:=h
 have x1:=(h1.abs.1).zl
 have x2:=(h1.abs.2).zl
 have x3:=h3.zl
 have x4:=h4.zl
 have x5:=h1.2.1
 omega
theorem at_step {n:Int} {v f k:Nat} {a b s u:Int} (hn:2≤n) (h:SeI v f k a b s u) (ht:tnB a b = false):∃ g,f = g + 1 ∧
  Tm (a / n) (cdv b n) v∧Tm (a / (2 * k + 1)) (cdv b (2 * k + 1)) (v + 3) ∧
  (k % 2 = 1 → SeI v g (k + 1) (a / n / n) (cdv (cdv b n) n) (s + -(cdv b (2 * k + 1))) (u + -(a / (2 * k + 1)))∧atR n (g + 1) k a b s u = atR n g (k + 1) (a / n / n) (cdv (cdv b n) n) (s + -(cdv b (2 * k + 1))) (u + -(a / (2 * k + 1)))) ∧
  (k % 2 ≠ 1 → SeI v g (k + 1) (a / n / n) (cdv (cdv b n) n) (s + a / (2 * k + 1)) (u + cdv b (2 * k + 1))∧atR n (g + 1) k a b s u = atR n g (k + 1) (a / n / n) (cdv (cdv b n) n) (s + a / (2 * k + 1)) (u + cdv b (2 * k + 1))):=by
 obtain ⟨h1,h2,h3,h4⟩:=h
 obtain ⟨g,rfl⟩:=h1.pos ht
 have hx:=h1.low (n:=2 * (k:Int) + 1) (by omega)
 have hy:=h1.half hn
 have hz:=hy.low (n:=n) (by omega)
 have e1:=hx.abs.1.up (show g + 1≤v + k by omega)
 have e2:=hx.abs.2.up (show g + 1≤v + k by omega)
 refine ⟨g,rfl,hy.up (by omega),hx.up (by omega),fun hk => ?_,fun hk => ?_⟩
 ·refine ⟨⟨hz,by omega,h3.add e2.neg,h4.add e1.neg⟩,?_⟩
  rw [atR,ht,if_neg (by simp),if_pos hk]
 ·refine ⟨⟨hz,by omega,h3.add e1,h4.add e2⟩,?_⟩
  rw [atR,ht,if_neg (by simp),if_neg hk]
def atS (n:Int) (v:Nat):Int × Int:=atR n v 0 (2 ^ v / n) (cdv (2 ^ v) n) 0 0
def atL (n:Int) (v:Nat):Int:=(atS n v).1 - 2
def atH (n:Int) (v:Nat):Int:=(atS n v).2 + 2
def piL (v:Nat):Int:=atL 5 v * 16 + -(atH 239 v * 4)
def piH (v:Nat):Int:=atH 5 v * 16 + -(atL 239 v * 4)
theorem atR_abs {n:Int} {v:Nat} (hn:2≤n):∀ (f k:Nat) (a b s u:Int),SeI v f k a b s u → AbP (atR n f k a b s u).1 (2 * v + 3)∧AbP (atR n f k a b s u).2 (2 * v + 3)
  | f,k,a,b,s,u,h => by
    cases ht:tnB a b
    · obtain ⟨g,rfl,_,_,h1,h2⟩:=at_step hn h ht
      by_cases hk:k % 2 = 1
      · rw [(h1 hk).2]
        exact atR_abs hn g _ _ _ _ _ (h1 hk).1
      · rw [(h2 hk).2]
        exact atR_abs hn g _ _ _ _ _ (h2 hk).1
    · rw [atR_end ht]
      obtain ⟨_,h2,h3,h4⟩:=h
      exact ⟨h3.up (by omega),h4.up (by omega)⟩
theorem at_first {n:Int} (hn:2≤n) (v:Nat):SeI v v 0 (2 ^ v / n) (cdv (2 ^ v) n) 0 0:=⟨(tm_one v).low (by omega),by omega,AbP.zero _,AbP.zero _⟩
theorem isZ_s {w:World} {s:Value} {z:Int} (h:IsN w s z.natAbs):IsZ w (.agg #[.bool (ng z),s]) z:=⟨s,rfl,h⟩

theorem s13add_any (a b a2 b2:Int) (vx vy:Value) (w:World) (hx:IsS w vx a b) (hy:IsS w vy a2 b2) (la:zl a≤10000) (lb:zl b≤10000) (la2:zl a2≤10000) (lb2:zl b2≤10000) :
  Calls Tryz.prog 56 #[vx,vy] w (RetSp w (a + a2) (b + b2)):=by
 obtain ⟨A,c,B,d,rfl,hn1,hn2⟩:=hx.form
 obtain ⟨A2,c2,B2,d2,rfl,hn3,hn4⟩:=hy.form
 have L0:=((((Lq.mk0 w).n hn4).n hn3).n hn2).n hn1
 have h1:=fun v u W h k => rzadd_any a a2 v u W h k (by omega) (by omega)
 have h2:=fun v u W h k => rzadd_any b b2 v u W h k (by omega) (by omega)
 obtain ⟨x,hx⟩:=nm9 (a + a2)
 obtain ⟨y,hy⟩:=nm9 (b + b2)
 rw [hx] at h1 ⊢
 rw [hy] at h2 ⊢
 have H1:=Hd9 h1
 have H2:=Hd9 h2
 clear h1 h2 hx hy hn1 hn2 hn3 hn4 la lb la2 lb2
 go_enter Tryz.func56,Tryz.ntmps56
 go_wp2_with fail
 have L:=(((L0.varS (w.heap.size) (by simp) (ng a) A (zl a) c (ng b) B (zl b) d).varS (w.heap.size + 1) (by simp) (ng a2) A2 (zl a2) c2 (ng b2) B2 (zl b2) d2).varS (w.heap.size + 2) (by simp) false none 0 0 false none 0 0)
 replace L:=L.drew
 obtain ⟨c00,c01,c02,c03⟩:=L.b0.a4
 obtain ⟨f00,f01,f02,f03⟩:=L.b0.f4
 obtain ⟨c10,c11,c12,c13⟩:=L.tl.b0.a4
 obtain ⟨c20,c21,c22,c23⟩:=L.tl.tl.b0.a4
 go_region_held3 (fun w' => w'.cell? ⟨w.heap.size,0,none⟩ = some (.bool (ng a))∧w'.cell? ⟨w.heap.size,1,none⟩ = some (.slice A (zl a) c)∧w'.cell? ⟨w.heap.size,2,none⟩ = some (.bool (ng b))∧w'.cell? ⟨w.heap.size,3,none⟩ = some (.slice B (zl b) d)∧w'.cell? ⟨(w.heap.size + 1),0,none⟩ = some (.bool (ng a2))∧w'.cell? ⟨(w.heap.size + 1),1,none⟩ = some (.slice A2 (zl a2) c2)∧w'.cell? ⟨(w.heap.size + 1),2,none⟩ = some (.bool (ng b2))∧w'.cell? ⟨(w.heap.size + 1),3,none⟩ = some (.slice B2 (zl b2) d2)) (first | (with_reducible exact ⟨L.tl.tl.b0.c40,L.tl.tl.b0.c41,L.tl.tl.b0.c42,L.tl.tl.b0.c43,L.tl.b0.c40,L.tl.b0.c41,L.tl.b0.c42,L.tl.b0.c43⟩) | (have LP:=L.putS (by omega) (by first | (simp;done) | (simp;omega)) (ng x) A8 (zl x) c8 (ng y) A9 (zl y) c9;unfold put4 at LP;with_reducible exact ⟨LP.tl.tl.b0.c40,LP.tl.tl.b0.c41,LP.tl.tl.b0.c42,LP.tl.tl.b0.c43,LP.tl.b0.c40,LP.tl.b0.c41,LP.tl.b0.c42,LP.tl.b0.c43⟩) | exact ⟨L.tl.tl.b0.c40,L.tl.tl.b0.c41,L.tl.tl.b0.c42,L.tl.tl.b0.c43,L.tl.b0.c40,L.tl.b0.c41,L.tl.b0.c42,L.tl.b0.c43⟩) (first | (go_at_call 84;(with_reducible refine (H1.out _ _ _ ?_ ?_ ).mono ?_);(· (refine isZ_s (L.getN ?_);(repeat (first | (with_reducible exact mS) | apply mT))));(· (refine isZ_s (L.getN ?_);(repeat (first | (with_reducible exact mS) | apply mT))));rintro e wh ⟨vh,rfl,iz,be⟩;obtain ⟨A8,c8,rfl,in9⟩:=iz.form;replace L:=(L.step be).n in9;clear be iz in9;(try (obtain ⟨x00,x01,x02,x03⟩:=L.b0.a4;obtain ⟨y00,y01,y02,y03⟩:=L.b0.f4))) | (go_at_call 84;(with_reducible refine (H2.out _ _ _ ?_ ?_ ).mono ?_);(· (refine isZ_s (L.getN ?_);(repeat (first | (with_reducible exact mS) | apply mT))));(· (refine isZ_s (L.getN ?_);(repeat (first | (with_reducible exact mS) | apply mT))));rintro e wh ⟨vh,rfl,iz,be⟩;obtain ⟨A9,c9,rfl,in9⟩:=iz.form;replace L:=(L.step be).n in9;clear be iz in9;(try (obtain ⟨x00,x01,x02,x03⟩:=L.b0.a4;obtain ⟨y00,y01,y02,y03⟩:=L.b0.f4))))
 clear c00 f00 c01 f01 c02 f02 c03 f03 c10 c11 c12 c13 c20 c21 c22 c23
 go_wp2_with fail
 have LP:=L.putS (by omega) (by first | (simp;done) | (simp;omega)) (ng x) A8 (zl x) c8 (ng y) A9 (zl y) c9
 obtain ⟨k0,k1,k2,k3⟩:=LP.b0.a4
 unfold put4 at k0 k1 k2 k3
 exact bodyPost_ret (v:=.agg #[.bool (ng x),.slice A8 (zl x) c8,.bool (ng y),.slice A9 (zl y) c9]) (by simp [results,Tryz.results56,go_sem,k0,k1,k2,k3]) rfl ⟨_,rfl,isS_n (LP.getN (by simp)) (LP.getN (by simp)),LP.below⟩
theorem s13neg_any (a b:Int) (vx:Value) (w:World) (hx:IsS w vx a b) (la:zl a≤10000) (lb:zl b≤10000) :
  Calls Tryz.prog 71 #[vx] w (RetSp w (-b) (-a)):=by
 obtain ⟨A,c,B,d,rfl,hn1,hn2⟩:=hx.form
 have L0:=((Lq.mk0 w).n hn2).n hn1
 have h1:=fun v W h => rzneg_any b v W h (by omega)
 have h2:=fun v W h => rzneg_any a v W h (by omega)
 obtain ⟨x,hx⟩:=nm9 (-b)
 obtain ⟨y,hy⟩:=nm9 (-a)
 rw [hx] at h1 ⊢
 rw [hy] at h2 ⊢
 have H1:=Hd9 h1
 have H2:=Hd9 h2
 clear h1 h2 hx hy hn1 hn2 la lb
 go_enter Tryz.func71,Tryz.ntmps71
 go_wp2_with fail
 have L:=((L0.varS (w.heap.size) (by simp) (ng a) A (zl a) c (ng b) B (zl b) d).varS (w.heap.size + 1) (by simp) false none 0 0 false none 0 0)
 replace L:=L.drew
 obtain ⟨c00,c01,c02,c03⟩:=L.b0.a4
 obtain ⟨f00,f01,f02,f03⟩:=L.b0.f4
 obtain ⟨c10,c11,c12,c13⟩:=L.tl.b0.a4
 go_region_held3 (fun w' => w'.cell? ⟨w.heap.size,0,none⟩ = some (.bool (ng a))∧w'.cell? ⟨w.heap.size,1,none⟩ = some (.slice A (zl a) c)∧w'.cell? ⟨w.heap.size,2,none⟩ = some (.bool (ng b))∧w'.cell? ⟨w.heap.size,3,none⟩ = some (.slice B (zl b) d)) (first | (with_reducible exact ⟨L.tl.b0.c40,L.tl.b0.c41,L.tl.b0.c42,L.tl.b0.c43⟩) | (have LP:=L.putS (by omega) (by first | (simp;done) | (simp;omega)) (ng x) A8 (zl x) c8 (ng y) A9 (zl y) c9;unfold put4 at LP;with_reducible exact ⟨LP.tl.b0.c40,LP.tl.b0.c41,LP.tl.b0.c42,LP.tl.b0.c43⟩) | exact ⟨L.tl.b0.c40,L.tl.b0.c41,L.tl.b0.c42,L.tl.b0.c43⟩) (first | (go_at_call 82;(with_reducible refine (H1.out _ _ ?_ ).mono ?_);(· (refine isZ_s (L.getN ?_);(repeat (first | (with_reducible exact mS) | apply mT))));rintro e wh ⟨vh,rfl,iz,be⟩;obtain ⟨A8,c8,rfl,in9⟩:=iz.form;replace L:=(L.step be).n in9;clear be iz in9;(try (obtain ⟨x00,x01,x02,x03⟩:=L.b0.a4;obtain ⟨y00,y01,y02,y03⟩:=L.b0.f4))) | (go_at_call 82;(with_reducible refine (H2.out _ _ ?_ ).mono ?_);(· (refine isZ_s (L.getN ?_);(repeat (first | (with_reducible exact mS) | apply mT))));rintro e wh ⟨vh,rfl,iz,be⟩;obtain ⟨A9,c9,rfl,in9⟩:=iz.form;replace L:=(L.step be).n in9;clear be iz in9;(try (obtain ⟨x00,x01,x02,x03⟩:=L.b0.a4;obtain ⟨y00,y01,y02,y03⟩:=L.b0.f4))))
 clear c00 f00 c01 f01 c02 f02 c03 f03 c10 c11 c12 c13
 go_wp2_with fail
 have LP:=L.putS (by omega) (by first | (simp;done) | (simp;omega)) (ng x) A8 (zl x) c8 (ng y) A9 (zl y) c9
 obtain ⟨k0,k1,k2,k3⟩:=LP.b0.a4
 unfold put4 at k0 k1 k2 k3
 exact bodyPost_ret (v:=.agg #[.bool (ng x),.slice A8 (zl x) c8,.bool (ng y),.slice A9 (zl y) c9]) (by simp [results,Tryz.results71,go_sem,k0,k1,k2,k3]) rfl ⟨_,rfl,isS_n (LP.getN (by simp)) (LP.getN (by simp)),LP.below⟩
theorem s13sub_any (a b a2 b2:Int) (vx vy:Value) (w:World) (hx:IsS w vx a b) (hy:IsS w vy a2 b2) (la:zl a≤10000) (lb:zl b≤10000) (la2:zl a2≤10000) (lb2:zl b2≤10000) :
  Calls Tryz.prog 55 #[vx,vy] w (RetSp w (a + -b2) (b + -a2)):=by
 obtain ⟨A,c,B,d,rfl,hn1,hn2⟩:=hx.form
 obtain ⟨A2,c2,B2,d2,rfl,hn3,hn4⟩:=hy.form
 have L0:=((((Lq.mk0 w).n hn4).n hn3).n hn2).n hn1
 have z1:=zl_neg a2
 have z2:=zl_neg b2
 have h1:=fun v W h => s13neg_any a2 b2 v W h la2 lb2
 have h2:=fun v u W h k => s13add_any a b (-b2) (-a2) v u W h k la lb (by omega) (by omega)
 obtain ⟨p,hp⟩:=nm9 (-b2)
 obtain ⟨q,hq⟩:=nm9 (-a2)
 rw [hp,hq] at h1 h2 ⊢
 obtain ⟨x,hx⟩:=nm9 (a + p)
 obtain ⟨y,hy⟩:=nm9 (b + q)
 rw [hx,hy] at h2 ⊢
 have H1:=Hd9 h1
 have H2:=Hd9 h2
 clear h1 h2 hx hy hn1 hn2 hn3 hn4 la lb la2 lb2 hp hq z1 z2
 go_enter Tryz.func55,Tryz.ntmps55
 go_wp2_with fail
 have L:=(((L0.varS (w.heap.size) (by simp) (ng a) A (zl a) c (ng b) B (zl b) d).varS (w.heap.size + 1) (by simp) (ng a2) A2 (zl a2) c2 (ng b2) B2 (zl b2) d2).varS (w.heap.size + 2) (by simp) false none 0 0 false none 0 0)
 replace L:=L.drew
 obtain ⟨c00,c01,c02,c03⟩:=L.b0.a4
 obtain ⟨f00,f01,f02,f03⟩:=L.b0.f4
 obtain ⟨c10,c11,c12,c13⟩:=L.tl.b0.a4
 obtain ⟨c20,c21,c22,c23⟩:=L.tl.tl.b0.a4
 go_region_held3 (fun w' => w'.cell? ⟨w.heap.size,0,none⟩ = some (.bool (ng a))∧w'.cell? ⟨w.heap.size,1,none⟩ = some (.slice A (zl a) c)∧w'.cell? ⟨w.heap.size,2,none⟩ = some (.bool (ng b))∧w'.cell? ⟨w.heap.size,3,none⟩ = some (.slice B (zl b) d)∧w'.cell? ⟨(w.heap.size + 1),0,none⟩ = some (.bool (ng a2))∧w'.cell? ⟨(w.heap.size + 1),1,none⟩ = some (.slice A2 (zl a2) c2)∧w'.cell? ⟨(w.heap.size + 1),2,none⟩ = some (.bool (ng b2))∧w'.cell? ⟨(w.heap.size + 1),3,none⟩ = some (.slice B2 (zl b2) d2)) (first | (with_reducible exact ⟨L.tl.tl.b0.c40,L.tl.tl.b0.c41,L.tl.tl.b0.c42,L.tl.tl.b0.c43,L.tl.b0.c40,L.tl.b0.c41,L.tl.b0.c42,L.tl.b0.c43⟩) | (have LP:=L.putS (by omega) (by first | (simp;done) | (simp;omega)) (ng x) A8 (zl x) c8 (ng y) B8 (zl y) d8;unfold put4 at LP;with_reducible exact ⟨LP.tl.tl.b0.c40,LP.tl.tl.b0.c41,LP.tl.tl.b0.c42,LP.tl.tl.b0.c43,LP.tl.b0.c40,LP.tl.b0.c41,LP.tl.b0.c42,LP.tl.b0.c43⟩) | exact ⟨L.tl.tl.b0.c40,L.tl.tl.b0.c41,L.tl.tl.b0.c42,L.tl.tl.b0.c43,L.tl.b0.c40,L.tl.b0.c41,L.tl.b0.c42,L.tl.b0.c43⟩) (first | (go_at_call 71;(with_reducible refine (H1.out _ _ ?_ ).mono ?_);(· (refine isS_n (L.getN ?_) (L.getN ?_) <;> (repeat (first | (with_reducible exact mS) | apply mT))));rintro e wh ⟨vh,rfl,iq,be⟩;obtain ⟨A7,c7,B7,d7,rfl,ia,ib⟩:=iq.form;replace L:=((L.step be).n ib).n ia;clear be iq ia ib;(try (obtain ⟨x00,x01,x02,x03⟩:=L.b0.a4;obtain ⟨y00,y01,y02,y03⟩:=L.b0.f4))) | (go_at_call 56;(with_reducible refine (H2.out _ _ _ ?_ ?_ ).mono ?_);(· (refine isS_n (L.getN ?_) (L.getN ?_) <;> (repeat (first | (with_reducible exact mS) | apply mT))));(· (refine isS_n (L.getN ?_) (L.getN ?_) <;> (repeat (first | (with_reducible exact mS) | apply mT))));rintro e wh ⟨vh,rfl,iq,be⟩;obtain ⟨A8,c8,B8,d8,rfl,ia,ib⟩:=iq.form;replace L:=((L.step be).n ib).n ia;clear be iq ia ib;(try (obtain ⟨x00,x01,x02,x03⟩:=L.b0.a4;obtain ⟨y00,y01,y02,y03⟩:=L.b0.f4))))
 clear c00 f00 c01 f01 c02 f02 c03 f03 c10 c11 c12 c13 c20 c21 c22 c23
 go_wp2_with fail
 have LP:=L.putS (by omega) (by first | (simp;done) | (simp;omega)) (ng x) A8 (zl x) c8 (ng y) B8 (zl y) d8
 obtain ⟨k0,k1,k2,k3⟩:=LP.b0.a4
 unfold put4 at k0 k1 k2 k3
 exact bodyPost_ret (v:=.agg #[.bool (ng x),.slice A8 (zl x) c8,.bool (ng y),.slice B8 (zl y) d8]) (by simp [results,Tryz.results55,go_sem,k0,k1,k2,k3]) rfl ⟨_,rfl,isS_n (LP.getN (by simp)) (LP.getN (by simp)),LP.below⟩

theorem Lq.subx {w0 w:World} {ns:List (Value × Nat)} {zs:List (Value × Int)} {qs:List (Value × Int × Nat)} {bs:List (Nat × TypeId × Array Value)} (h:Lq w0 w ns zs qs bs) {ns':List (Value × Nat)} {bs':List (Nat × TypeId × Array Value)} (h1:∀ p ∈ ns',p ∈ ns) (h2:∀ b ∈ bs',b ∈ bs):Lq w0 w ns' [] [] bs':=
 ⟨h.below,fun x hx => h.ns x (h1 x hx),fun _ x => (by cases x),fun _ x => (by cases x),fun x hx => h.bs x (h2 x hx)⟩

theorem s13at_any (m e:Int) (v:Nat) (vx:Value) (w:World) (hx:IsD w vx m e) (lm:zl m≤1000) (he:-20000≤e∧e≤20000) (hv:v≤20000) :
  Calls Tryz.prog 54 #[vx,.int .i64 (v:Int)] w (RetSp w (cutQ (dq m e) (v:Int)) (-(cutQ (-(dq m e)) (v:Int)))):=by
 obtain ⟨A,c,rfl,_,hn⟩:=hx.form
 have L0:=(Lq.mk0 w).n hn
 have zn:=zl_neg m
 have x1:=zl_two m e.toNat
 have y1:=len_two (-e).toNat
 have z1:=two_pos8 (-e).toNat
 have x2:=zl_two (-m) e.toNat
 have h1:=fun v W h => rrat8_any m e v W h (by omega) (by omega)
 have h2:=fun x W h => rcut_any (m * 2 ^ e.toNat) (2 ^ (-e).toNat) (v:Int) x W h (by omega) (by omega) z1 (by omega) (by omega)
 have h3:=fun v W h => rneg8_any m e v W h (by omega)
 have h4:=fun v W h => rrat8_any (-m) e v W h (by omega) (by omega)
 have h5:=fun x W h => rcut_any (-m * 2 ^ e.toNat) (2 ^ (-e).toNat) (v:Int) x W h (by omega) (by omega) z1 (by omega) (by omega)
 rw [show Rat.divInt (m * 2 ^ e.toNat) ((2 ^ (-e).toNat:Nat):Int) = dq m e from rfl] at h2
 rw [show Rat.divInt (-m * 2 ^ e.toNat) ((2 ^ (-e).toNat:Nat):Int) = -(dq m e) from dq_neg m e] at h5
 have lz:zl (cutQ (-(dq m e)) (v:Int))≤274877906944:=by
  rw [show -(dq m e) = Rat.divInt (-m * 2 ^ e.toNat) ((2 ^ (-e).toNat:Nat):Int) from (dq_neg m e).symm,cut_eq _ _ z1]
  have a1:=zl_two (-m * 2 ^ e.toNat) ((v:Int)).toNat
  refine Nat.le_trans (len_mono (Int.natAbs_ediv_le_natAbs _ _)) ?_
  exact Nat.le_trans a1 (by omega)
 have h6:=fun x W h => rzneg_any (cutQ (-(dq m e)) (v:Int)) x W h lz
 obtain ⟨x,hx⟩:=nm9 (cutQ (dq m e) (v:Int))
 obtain ⟨y,hy⟩:=nm9 (cutQ (-(dq m e)) (v:Int))
 rw [hx] at h2 ⊢
 rw [hy] at h5 h6 ⊢
 obtain ⟨z,hz⟩:=nm9 (-y)
 rw [hz] at h6 ⊢
 generalize m * 2 ^ e.toNat = p1 at *
 generalize -m * 2 ^ e.toNat = p2 at *
 generalize 2 ^ (-e).toNat = q1 at *
 have H1:=Hd9 h1
 have H2:=Hd9 h2
 have H3:=Hd9 h3
 have H4:=Hd9 h4
 have H5:=Hd9 h5
 have H6:=Hd9 h6
 clear h1 h2 h3 h4 h5 h6 hx hy hz lz zn x1 y1 z1 x2 hn lm he
 go_enter Tryz.func54,Tryz.ntmps54
 have L:=((L0.varD (w.heap.size) (by simp) (ng m) A (zl m) c e).varS (w.heap.size + 1) (by simp) false none 0 0 false none 0 0)
 obtain ⟨c10,c11,c12⟩:=L.tl.b0.a3
 (try go_wp2_with fail)
 refine (H1.out _ _ (isD_n (m:=m) (e:=e) (s:=.slice A (zl m) c) (L.getN (by simp)))).mono ?_
 rintro e w1 ⟨v1,rfl,iq,be⟩
 clear c10 c11 c12
 obtain ⟨A1,c1,B1,d1,rfl,_,i1,i2⟩:=iq.form
 replace L:=((L.step be).n i2).n i1
 clear be iq i1 i2
 have hl1:=L.b0.lt
 replace L:=L.varQ w1.heap.size rfl (ng p1) A1 B1 (zl p1) c1 (len q1) d1
 obtain ⟨c00,c01,c02⟩:=L.b0.a3
 go_wp2_with fail
 clear c00 c01 c02
 obtain ⟨g1,hg1⟩:=nm9 (w1.heap.size)
 rw [hg1] at L hl1 ⊢
 clear hg1
 refine (H2.out _ _ ⟨.slice A1 (zl p1) c1,.slice B1 (len q1) d1,rfl,L.getN (by simp),L.getN (by simp)⟩).mono ?_
 rintro e w2 ⟨v2,rfl,iz,be⟩
 obtain ⟨A2,c2,rfl,i1⟩:=iz.form
 replace L:=(L.step be).n i1
 clear be iz i1
 have hl2:=L.b0.lt
 replace L:=L.varZ w2.heap.size rfl (ng x) A2 (zl x) c2
 obtain ⟨c00,c01⟩:=L.b0.a2
 obtain ⟨c30,c31,c32⟩:=L.tl.tl.tl.b0.a3
 go_wp2_with fail
 clear c00 c01 c30 c31 c32
 obtain ⟨g2,hg2⟩:=nm9 (w2.heap.size)
 rw [hg2] at L hl2 ⊢
 clear hg2
 have n1:w.heap.size + 1 ≠ g1:=by omega
 have n2:w.heap.size + 1 ≠ g2:=by omega
 have L9:=L.subx (ns':=[(.slice A2 (zl x) c2,x.natAbs),(.slice A (zl m) c,m.natAbs)]) (bs':=[(w.heap.size + 1,53,#[.bool false,.slice none 0 0,.bool false,.slice none 0 0]),(g2,24,#[.bool (ng x),.slice A2 (zl x) c2]),(w.heap.size,26,#[.bool (ng m),.slice A (zl m) c,.int .i64 e])]) (by simp) (by simp)
 clear L
 have L:=L9.drew
 clear L9
 obtain ⟨c00,c01,c02,c03⟩:=L.b0.a4
 obtain ⟨f00,f01,f02,f03⟩:=L.b0.f4
 obtain ⟨c10,c11⟩:=L.tl.b0.a2
 obtain ⟨c20,c21,c22⟩:=L.tl.tl.b0.a3
 go_region_held3 (fun w' => w'.cell? ⟨g2,0,none⟩ = some (.bool (ng x))∧w'.cell? ⟨g2,1,none⟩ = some (.slice A2 (zl x) c2)∧w'.cell? ⟨w.heap.size,0,none⟩ = some (.bool (ng m))∧w'.cell? ⟨w.heap.size,1,none⟩ = some (.slice A (zl m) c)∧w'.cell? ⟨w.heap.size,2,none⟩ = some (.int .i64 e)) (first | (with_reducible exact ⟨L.tl.b0.c20,L.tl.b0.c21,L.tl.tl.b0.c30,L.tl.tl.b0.c31,L.tl.tl.b0.c32⟩) | (have LP:=L.putS (by omega) (by first | (simp;done) | (simp;omega)) (ng x) A2 (zl x) c2 (ng z) A8 (zl z) c8;unfold put4 at LP;with_reducible exact ⟨LP.tl.b0.c20,LP.tl.b0.c21,LP.tl.tl.b0.c30,LP.tl.tl.b0.c31,LP.tl.tl.b0.c32⟩) | exact ⟨L.tl.b0.c20,L.tl.b0.c21,L.tl.tl.b0.c30,L.tl.tl.b0.c31,L.tl.tl.b0.c32⟩) (first | (go_at_call 35;(with_reducible refine (H3.out _ _ ?_ ).mono ?_);(· (refine isD_n (L.getN ?_);(repeat (first | (with_reducible exact mS) | apply mT))));rintro e wh ⟨vh,rfl,id,be⟩;obtain ⟨A4,c4,rfl,_,in9⟩:=id.form;replace L:=(L.step be).n in9;clear be id in9) | (go_at_call 91;(with_reducible refine (H4.out _ _ ?_ ).mono ?_);(· (refine isD_n (L.getN ?_);(repeat (first | (with_reducible exact mS) | apply mT))));rintro e wh ⟨vh,rfl,iq,be⟩;replace L:=(L.step be).q iq;clear be iq) | (go_at_call 109;(with_reducible refine (H5.out _ _ ?_ ).mono ?_);(· (refine L.getQ ?_;(repeat (first | (with_reducible exact mS) | apply mT))));rintro e wh ⟨vh,rfl,iz,be⟩;replace L:=(L.step be).z iz;clear be iz) | (go_at_call 82;(with_reducible refine (H6.out _ _ ?_ ).mono ?_);(· (refine L.getZ ?_;(repeat (first | (with_reducible exact mS) | apply mT))));rintro e wh ⟨vh,rfl,iz,be⟩;obtain ⟨A8,c8,rfl,in9⟩:=iz.form;replace L:=(L.step be).n in9;clear be iz in9;(try (obtain ⟨x00,x01,x02,x03⟩:=L.b0.a4;obtain ⟨y00,y01,y02,y03⟩:=L.b0.f4))))
 clear c00 f00 c01 f01 c02 f02 c03 f03 c10 c11 c20 c21 c22
 go_wp2_with fail
 have LP:=L.putS (by omega) (by first | (simp;done) | (simp;omega)) (ng x) A2 (zl x) c2 (ng z) A8 (zl z) c8
 obtain ⟨k0,k1,k2,k3⟩:=LP.b0.a4
 unfold put4 at k0 k1 k2 k3
 exact bodyPost_ret (v:=.agg #[.bool (ng x),.slice A2 (zl x) c2,.bool (ng z),.slice A8 (zl z) c8]) (by simp [results,Tryz.results54,go_sem,k0,k1,k2,k3]) rfl ⟨_,rfl,isS_n (LP.getN (by simp)) (LP.getN (by simp)),LP.below⟩

theorem s13near_any (m e n f m1 e1 n1 f1 m2 e2 n2 f2 k M E R Ma Ea Mb Eb x1 x2 x3 x4:Int) (vx vl vh:Value) (w:World) (hx:IsI w vx m e n f) (hl:IsI w vl m1 e1 n1 f1) (hh:IsI w vh m2 e2 n2 f2) (w1:IntKind.i64.wrap (k - 1) = k - 1) (h0:∀ v W,IsI W v m e n f → Calls Tryz.prog 49 #[v] W (RetB W true)) (h1:∀ v W,IsD W v m e → Calls Tryz.prog 50 #[v,.int .i64 k] W (RetB W true)) (h2:∀ v W,IsD W v n f → Calls Tryz.prog 50 #[v,.int .i64 k] W (RetB W true)) (h3:∀ W,Calls Tryz.prog 30 #[.int .i64 (k - 1)] W (RetDE W M E R)) (h4:∀ v u W,IsD W v m1 e1 → IsD W u M E → Calls Tryz.prog 31 #[v,u] W (RetDE W Ma Ea 0)) (h5:∀ v u W,IsD W v n2 f2 → IsD W u M E → Calls Tryz.prog 32 #[v,u] W (RetDE W Mb Eb 0)) (h6:(∀ v u W,IsD W v m e → IsD W u n1 f1 → Calls Tryz.prog 53 #[v,u] W (RetI W x1))) (h7:(∀ v u W,IsD W v Ma Ea → IsD W u m e → Calls Tryz.prog 53 #[v,u] W (RetI W x2))) (h8:(∀ v u W,IsD W v m2 e2 → IsD W u n f → Calls Tryz.prog 53 #[v,u] W (RetI W x3))) (h9:(∀ v u W,IsD W v n f → IsD W u Mb Eb → Calls Tryz.prog 53 #[v,u] W (RetI W x4))) (q1:x1≤0) (q2:x2≤0) (q3:x3≤0) (q4:x4≤0) :
  Calls Tryz.prog 17 #[vx,vl,vh,.int .i64 k] w (RetB w true):=by
 obtain ⟨A,c,B,d,rfl,hn1,hn2⟩:=hx.form
 obtain ⟨A1,c1,B1,d1,rfl,hn3,hn4⟩:=hl.form
 obtain ⟨A2,c2,B2,d2,rfl,hn5,hn6⟩:=hh.form
 have L0:=((((((Lq.mk0 w).n hn6).n hn5).n hn4).n hn3).n hn2).n hn1
 have H0:=Hd9 h0
 have H1:=Hd9 h1
 have H2:=Hd9 h2
 have H3:=Hd9 h3
 have H4:=Hd9 h4
 have H5:=Hd9 h5
 have H6:=Hd9 h6
 have H7:=Hd9 h7
 have H8:=Hd9 h8
 have H9:=Hd9 h9
 have p1:decide (x1≤0) = true:=decide_eq_true q1
 have p2:decide (x2≤0) = true:=decide_eq_true q2
 have p3:decide (x3≤0) = true:=decide_eq_true q3
 have p4:decide (x4≤0) = true:=decide_eq_true q4
 clear h0 h1 h2 h3 h4 h5 h6 h7 h8 h9 hx hl hh hn1 hn2 hn3 hn4 hn5 hn6 q1 q2 q3 q4
 go_enter Tryz.func17,Tryz.ntmps17
 go_wp2_with fail
 have L:=(((L0.varI (w.heap.size) (by simp) (ng m) A (zl m) c e (ng n) B (zl n) d f).varI (w.heap.size + 1) (by simp) (ng m1) A1 (zl m1) c1 e1 (ng n1) B1 (zl n1) d1 f1).varI (w.heap.size + 2) (by simp) (ng m2) A2 (zl m2) c2 e2 (ng n2) B2 (zl n2) d2 f2)
 obtain ⟨c20,c21,c22,c23,c24,c25⟩:=L.tl.tl.b0.a6
 (try go_wp2_with fail)
 refine (H0.out _ _ (isI_n (m:=m) (e:=e) (n:=n) (f:=f) (L.getN (by simp)) (L.getN (by simp)))).mono ?_
 rintro e w1 ⟨rfl,be⟩
 clear c20 c21 c22 c23 c24 c25
 replace L:=L.step be
 clear be
 obtain ⟨c20,c21,c22,c23,c24,c25⟩:=L.tl.tl.b0.a6
 (try go_wp2_with fail)
 refine (H1.out _ _ (isD_n (m:=m) (e:=e) (s:=.slice A (zl m) c) (L.getN (by simp)))).mono ?_
 rintro e w2 ⟨rfl,be⟩
 clear c20 c21 c22 c23 c24 c25
 replace L:=L.step be
 clear be
 obtain ⟨c20,c21,c22,c23,c24,c25⟩:=L.tl.tl.b0.a6
 (try go_wp2_with fail)
 refine (H2.out _ _ (isD_n (m:=n) (e:=f) (s:=.slice B (zl n) d) (L.getN (by simp)))).mono ?_
 rintro e w3 ⟨rfl,be⟩
 clear c20 c21 c22 c23 c24 c25
 replace L:=L.step be
 clear be
 (try go_wp2_with fail)
 refine (H3.out _).mono ?_
 rintro e w4 ⟨vv,rfl,id,be⟩
 obtain ⟨A3,c3,rfl,_,in9⟩:=id.form
 replace L:=(L.step be).n in9
 clear be id in9
 have hl0:=L.b0.lt
 replace L:=L.varD w4.heap.size rfl (ng M) A3 (zl M) c3 E
 obtain ⟨c00,c01,c02⟩:=L.b0.a3
 obtain ⟨c20,c21,c22,c23,c24,c25⟩:=L.tl.tl.b0.a6
 go_wp2_with fail
 clear c00 c01 c02 c20 c21 c22 c23 c24 c25
 obtain ⟨g3,hg3⟩:=nm9 (w4.heap.size)
 rw [hg3] at L hl0 ⊢
 clear hg3
 refine (H4.out _ _ _ (isD_n (m:=m1) (e:=e1) (s:=.slice A1 (zl m1) c1) (L.getN (by simp))) (isD_n (m:=M) (e:=E) (s:=.slice A3 (zl M) c3) (L.getN (by simp)))).mono ?_
 rintro e w5 ⟨vv,rfl,id,be⟩
 obtain ⟨A4,c4,rfl,_,in9⟩:=id.form
 replace L:=(L.step be).n in9
 clear be id in9
 have hl1:=L.b0.lt
 replace L:=L.varD w5.heap.size rfl (ng Ma) A4 (zl Ma) c4 Ea
 obtain ⟨c10,c11,c12⟩:=L.tl.b0.a3
 obtain ⟨c20,c21,c22,c23,c24,c25⟩:=L.tl.tl.b0.a6
 go_wp2_with fail
 clear c10 c11 c12 c20 c21 c22 c23 c24 c25
 obtain ⟨g4,hg4⟩:=nm9 (w5.heap.size)
 rw [hg4] at L hl1 ⊢
 clear hg4
 refine (H5.out _ _ _ (isD_n (m:=n2) (e:=f2) (s:=.slice B2 (zl n2) d2) (L.getN (by simp))) (isD_n (m:=M) (e:=E) (s:=.slice A3 (zl M) c3) (L.getN (by simp)))).mono ?_
 rintro e w6 ⟨vv,rfl,id,be⟩
 obtain ⟨A5,c5,rfl,_,in9⟩:=id.form
 replace L:=(L.step be).n in9
 clear be id in9
 have hl2:=L.b0.lt
 replace L:=L.varD w6.heap.size rfl (ng Mb) A5 (zl Mb) c5 Eb
 obtain ⟨c00,c01,c02⟩:=L.b0.a3
 obtain ⟨c40,c41,c42,c43,c44,c45⟩:=L.tl.tl.tl.tl.b0.a6
 obtain ⟨c50,c51,c52,c53,c54,c55⟩:=L.tl.tl.tl.tl.tl.b0.a6
 go_wp2_with fail
 clear c00 c01 c02 c40 c41 c42 c43 c44 c45 c50 c51 c52 c53 c54 c55
 obtain ⟨g5,hg5⟩:=nm9 (w6.heap.size)
 rw [hg5] at L hl2 ⊢
 clear hg5
 refine (H6.out _ _ _ (isD_n (m:=m) (e:=e) (s:=.slice A (zl m) c) (L.getN (by simp))) (isD_n (m:=n1) (e:=f1) (s:=.slice B1 (zl n1) d1) (L.getN (by simp)))).mono ?_
 rintro e w7 ⟨rfl,be⟩
 replace L:=L.step be
 clear be
 obtain ⟨c10,c11,c12⟩:=L.tl.b0.a3
 obtain ⟨c50,c51,c52,c53,c54,c55⟩:=L.tl.tl.tl.tl.tl.b0.a6
 (try go_wp2_with fail)
 refine (H7.out _ _ _ (isD_n (m:=Ma) (e:=Ea) (s:=.slice A4 (zl Ma) c4) (L.getN (by simp))) (isD_n (m:=m) (e:=e) (s:=.slice A (zl m) c) (L.getN (by simp)))).mono ?_
 rintro e w8 ⟨rfl,be⟩
 clear c10 c11 c12 c50 c51 c52 c53 c54 c55
 replace L:=L.step be
 clear be
 obtain ⟨c30,c31,c32,c33,c34,c35⟩:=L.tl.tl.tl.b0.a6
 obtain ⟨c50,c51,c52,c53,c54,c55⟩:=L.tl.tl.tl.tl.tl.b0.a6
 (try go_wp2_with fail)
 refine (H8.out _ _ _ (isD_n (m:=m2) (e:=e2) (s:=.slice A2 (zl m2) c2) (L.getN (by simp))) (isD_n (m:=n) (e:=f) (s:=.slice B (zl n) d) (L.getN (by simp)))).mono ?_
 rintro e w9 ⟨rfl,be⟩
 clear c30 c31 c32 c33 c34 c35 c50 c51 c52 c53 c54 c55
 replace L:=L.step be
 clear be
 obtain ⟨c00,c01,c02⟩:=L.b0.a3
 obtain ⟨c50,c51,c52,c53,c54,c55⟩:=L.tl.tl.tl.tl.tl.b0.a6
 (try go_wp2_with fail)
 refine (H9.out _ _ _ (isD_n (m:=n) (e:=f) (s:=.slice B (zl n) d) (L.getN (by simp))) (isD_n (m:=Mb) (e:=Eb) (s:=.slice A5 (zl Mb) c5) (L.getN (by simp)))).mono ?_
 rintro e w10 ⟨rfl,be⟩
 clear c00 c01 c02 c50 c51 c52 c53 c54 c55
 replace L:=L.step be
 clear be
 (try go_wp2_with fail)
 (try go_ret)
 exact ⟨rfl,L.below⟩

theorem mk_fits9 {m e:Int} (h:zl m≤700) (h1:-40000≤e) (h2:e≤40000):mkR m e = 0:=by
 unfold mkR
 rw [if_neg (by omega)]
 by_cases h0:m = 0
 ·rw [if_pos h0]
 ·rw [if_neg h0]
  have ht:=tz_le8 m.natAbs (by omega)
  have e1:zl m = len m.natAbs:=rfl
  have hb:blen (oddM m).natAbs≤65536:=by
   have:=blen_le_len (oddM m).natAbs
   have h3:=zl_odd m
   have e2:zl (oddM m) = len (oddM m).natAbs:=rfl
   omega
  have ho:bitB (oddM m).natAbs 0 = true:=by
   obtain ⟨k,hk⟩:=tz_form (x:=m.natAbs) (by omega)
   have hd:m.natAbs / 2 ^ tz m.natAbs = 2 * k + 1:=by
    have:=Nat.mul_div_cancel_left (2 * k + 1) (Nat.pow_pos (n:=tz m.natAbs) (show 0 < 2 by omega))
    rwa [← hk] at this
   unfold bitB
   rw [oddM_abs,hd,Nat.pow_zero,Nat.div_one]
   exact decide_eq_true (by omega)
  have hf:fits8 (oddM m) (oddE m e) = true:=by
   unfold fits8 oddE
   rw [decide_eq_true hb,decide_eq_true (by omega),decide_eq_true (by omega),ho]
   rfl
  rw [hf]
  rfl
theorem mk_uniq {a e b f:Int} (h1:mkR a e = 0) (h2:mkR b f = 0) (h:dq a e = dq b f):mkM a e = mkM b f∧mkE a e = mkE b f:=
 dv_uniq (mk_ok h1) (mk_ok h2) (by rw [dq_mk h1,dq_mk h2,h])
theorem mkE_at {x y:Int} {k:Nat} (h:mkR x y = 0) (hz:zl x≤k):mkE x y = 0 ∨ (y≤mkE x y∧mkE x y≤y + 32 * (k:Int)):=by
 unfold mkE
 by_cases h0:x = 0
 ·rw [if_pos h0];exact Or.inl rfl
 ·rw [if_neg h0,if_pos h]
  refine Or.inr ?_
  have ht:=tz_le8 x.natAbs (by omega)
  have e1:zl x = len x.natAbs:=rfl
  unfold oddE
  omega
theorem nf {t:Int} {v:Nat} (h:AbP t v) (hv:v≤6000):mkR t 0 = 0∧zl (mkM t 0)≤200∧0≤mkE t 0∧mkE t 0≤6400∧mkM t 0 * 2 ^ (mkE t 0).toNat = t∧dq (mkM t 0) (mkE t 0) = dq t 0:=by
 have hz:=h.zl
 have hr:mkR t 0 = 0:=mk_fits2 (by omega) (by omega) (by omega)
 have z1:=zl_mk t 0
 have z2:=mkE_at hr (show zl t≤190 by omega)
 refine ⟨hr,by omega,by omega,by omega,?_,dq_mk hr⟩
 unfold mkM mkE
 rw [if_pos hr,if_pos hr]
 by_cases h0:t = 0
 ·subst h0;rw [oddM_zero];simp
 ·rw [if_neg h0,show (oddE t 0).toNat = tz t.natAbs from by unfold oddE;omega,odd_form]
theorem nf_zero {t:Int} {v:Nat} (h:AbP t v) (hv:v≤6000):mkM t 0 = 0 ↔ t = 0:=by
 obtain ⟨_,_,_,_,h5,_⟩:=nf h hv
 constructor
 ·intro e
  rw [e,Int.zero_mul] at h5
  exact h5.symm
 ·rintro rfl
  have hr:=(nf (AbP.zero 0) (by omega)).1
  unfold mkM
  rw [if_pos hr]
  exact oddM_zero
theorem nf00:mkM 0 0 = 0∧mkE 0 0 = 0:=by
 refine ⟨(nf_zero (AbP.zero 0) (by omega)).2 rfl,?_⟩
 unfold mkE
 rw [if_pos rfl]
def sqn:Nat → Rat → Rat
 | 0,b => b
 | n + 1,b => sqn n b * sqn n b
theorem sqn_succ (n:Nat) (b:Rat):sqn (n + 1) b = sqn n b * sqn n b:=rfl
theorem sqn_nn {n:Nat} {b:Rat} (h:0≤b):0≤sqn n b:=by
 induction n with
 | zero => exact h
 | succ n ih => exact Rat.mul_nonneg ih ih
theorem rmul_le {a b c d:Rat} (h1:a≤b) (h2:c≤d) (h3:0≤c) (h4:0≤b):a * c≤b * d:=
 Rat.le_trans (Rat.mul_le_mul_of_nonneg_right h1 h3) (Rat.mul_le_mul_of_nonneg_left h2 h4)
theorem rsq_nn (x:Rat):0≤x * x:=by
 by_cases h3:0≤x
 ·exact Rat.mul_nonneg h3 h3
 ·have:=Rat.mul_nonneg (show 0≤-x by grind) (show 0≤-x by grind)
  grind
theorem sqn_mono {n:Nat} {b c:Rat} (h:0≤b) (h2:b≤c):sqn n b≤sqn n c:=by
 induction n with
 | zero => exact h2
 | succ n ih => exact rmul_le ih ih (sqn_nn h) (Rat.le_trans (sqn_nn h) ih)
theorem sqn_two (n:Nat) (b:Rat):sqn (n + 1) b = sqn n (b * b):=by
 induction n with
 | zero => rfl
 | succ n ih => rw [sqn_succ,ih,sqn_succ]
theorem sqn_mul (n:Nat) (b c:Rat):sqn n (b * c) = sqn n b * sqn n c:=by
 induction n with
 | zero => rfl
 | succ n ih => rw [sqn_succ,sqn_succ,sqn_succ,ih];grind
theorem sqn_one (n:Nat):sqn n 1 = 1:=by
 induction n with
 | zero => rfl
 | succ n ih => rw [sqn_succ,ih];grind
theorem sqn_pos {n:Nat} {b:Rat} (h:0 < b):0 < sqn n b:=by
 induction n with
 | zero => exact h
 | succ n ih => exact Rat.mul_pos ih ih
def hn:Nat → Rat
 | 0 => 1
 | n + 1 => hn n / 2
theorem hn_succ (n:Nat):hn (n + 1) = hn n / 2:=rfl
theorem hn_pos (n:Nat):0 < hn n:=by
 induction n with
 | zero => decide
 | succ n ih => rw [hn_succ];grind
theorem hn_le {n k:Nat} (h:n≤k):hn k≤hn n:=by
  induction k with
  | zero => rw [show n = 0 by omega];exact Rat.le_refl
  | succ k ih =>
    by_cases h2:n≤k
    · have:=ih h2
      have:=hn_pos k
      rw [hn_succ]
      grind
    · rw [show n = k + 1 by omega];exact Rat.le_refl
theorem bern (n:Nat) {y:Rat} (h:-1≤y):1 + y≤sqn n (1 + y * hn n):=by
  induction n generalizing y with
  | zero => show 1 + y≤1 + y * 1;grind
  | succ n ih =>
    have hp:=hn_pos n
    have hq:=hn_le (Nat.zero_le n)
    have h1:hn 0 = 1:=rfl
    refine Rat.le_trans (ih h) ?_
    rw [sqn_two,hn_succ]
    refine sqn_mono ?_ ?_
    · have:-1 * hn n≤y * hn n:=Rat.mul_le_mul_of_nonneg_right h (Rat.le_of_lt hp)
      grind
    · have:=rsq_nn (y * (hn n / 2))
      grind
def exF (n:Nat) (x:Rat):Rat:=sqn n (1 + x * hn n)
theorem exF_up {n:Nat} {x:Rat} (h:0≤1 + x * hn n):exF n x≤exF (n + 1) x:=by
 unfold exF
 rw [sqn_two,hn_succ]
 refine sqn_mono h ?_
 have:=rsq_nn (x * (hn n / 2))
 grind
theorem exF_mono {n:Nat} {x y:Rat} (h:0≤1 + x * hn n) (h2:x≤y):exF n x≤exF n y:=by
 refine sqn_mono h ?_
 have:=Rat.mul_le_mul_of_nonneg_right h2 (Rat.le_of_lt (hn_pos n))
 grind
theorem nat_above (x:Rat):∃ M:Nat,x≤(M:Rat)∧-x≤(M:Rat):=by
 have up:∀ y:Rat,∃ M:Nat,y≤(M:Rat):=fun y => by
  refine ⟨(y.floor + 1).toNat,?_⟩
  have h1:¬ ((y.floor + 1:Int):Rat)≤y:=fun h => by
   have:=Rat.le_floor_iff.2 h
   omega
  have h2:y≤((y.floor + 1:Int):Rat):=Rat.le_of_lt (Rat.not_le.1 h1)
  refine Rat.le_trans h2 ?_
  have h3:y.floor + 1≤(((y.floor + 1).toNat:Nat):Int):=Int.self_le_toNat _
  have:=Rat.intCast_le_intCast.2 h3
  rwa [Rat.intCast_natCast] at this
 obtain ⟨M,h1⟩:=up x
 obtain ⟨K,h2⟩:=up (-x)
 refine ⟨M + K,?_,?_⟩
 ·have:(0:Rat)≤(K:Rat):=by exact_mod_cast Nat.zero_le K
  have e:((M + K:Nat):Rat) = (M:Rat) + (K:Rat):=by push_cast;rfl
  grind
 ·have:(0:Rat)≤(M:Rat):=by exact_mod_cast Nat.zero_le M
  have e:((M + K:Nat):Rat) = (M:Rat) + (K:Rat):=by push_cast;rfl
  grind
theorem nat_hn (k:Nat):(k:Rat) * hn k≤1:=by
  induction k with
  | zero => rw [show ((0:Nat):Rat) = 0 from rfl];grind
  | succ k ih =>
    rw [hn_succ]
    have:=hn_pos k
    have h1:=hn_le (Nat.zero_le k)
    have h0:hn 0 = 1:=rfl
    have e:((k + 1:Nat):Rat) = (k:Rat) + 1:=by push_cast;rfl
    rw [e]
    grind
theorem small_hn (x:Rat) {e:Rat} (he:0 < e):∃ N,∀ n,N≤n → -e≤x * hn n∧x * hn n≤e:=by
 obtain ⟨M,h1,h2⟩:=nat_above (x / e)
 refine ⟨M,fun n hn' => ?_⟩
 have h3:=nat_hn M
 have h4:=hn_le hn'
 have h5:=hn_pos n
 have hM:(0:Rat)≤(M:Rat):=by exact_mod_cast Nat.zero_le M
 have h6:(M:Rat) * hn n≤1:=Rat.le_trans (Rat.mul_le_mul_of_nonneg_left h4 hM) h3
 have a1:x / e * hn n≤(M:Rat) * hn n:=Rat.mul_le_mul_of_nonneg_right h1 (Rat.le_of_lt h5)
 have a2:-(x / e) * hn n≤(M:Rat) * hn n:=Rat.mul_le_mul_of_nonneg_right h2 (Rat.le_of_lt h5)
 have b1:x / e * hn n * e≤1 * e:=Rat.mul_le_mul_of_nonneg_right (Rat.le_trans a1 h6) (Rat.le_of_lt he)
 have b2:-(x / e) * hn n * e≤1 * e:=Rat.mul_le_mul_of_nonneg_right (Rat.le_trans a2 h6) (Rat.le_of_lt he)
 have c:x / e * e = x:=by grind
 constructor
 ·have:-(x / e) * hn n * e = -(x * hn n):=by rw [show -(x / e) * hn n * e = -(x / e * e * hn n) by grind,c]
  grind
 ·have:x / e * hn n * e = x * hn n:=by rw [show x / e * hn n * e = x / e * e * hn n by grind,c]
  grind
theorem lim_le {q r C:Rat} {M:Nat} (h:∀ n,M≤n → q≤r + C * hn n):q≤r:=by
 refine Rat.not_lt.1 fun hlt => ?_
 obtain ⟨N,hN⟩:=small_hn C (show 0 < (q - r) / 2 by grind)
 have h1:=h (max M N) (Nat.le_max_left _ _)
 have h2:=(hN (max M N) (Nat.le_max_right _ _)).2
 grind
theorem exF_pos {n:Nat} {x:Rat} (h:-(1 / 2)≤x * hn n):0 < exF n x:=sqn_pos (by grind)
theorem half_base (x:Rat):∃ N,∀ n,N≤n → -(1 / 2)≤x * hn n∧x * hn n≤1 / 2:=small_hn x (by grind)
theorem exF_ups {x:Rat} {n k:Nat} (h:∀ j,n≤j → -(1 / 2)≤x * hn j) (hk:n≤k):exF n x≤exF k x:=by
  induction k with
  | zero => rw [show n = 0 by omega];exact Rat.le_refl
  | succ k ih =>
    by_cases h2:n≤k
    · refine Rat.le_trans (ih h2) (exF_up ?_)
      have:=h k h2
      grind
    · rw [show n = k + 1 by omega];exact Rat.le_refl
def UpE (x b:Rat):Prop:=∃ N,∀ n,N≤n → exF n x≤b
def LoE (a x:Rat):Prop:=∃ N,∀ n,N≤n → a * exF n (-x)≤1
theorem UpE.pos {x b:Rat} (h:UpE x b):0 < b:=by
 obtain ⟨N,h⟩:=h
 obtain ⟨M,hM⟩:=half_base x
 have h1:=h (max N M) (Nat.le_max_left _ _)
 have h2:=exF_pos (hM (max N M) (Nat.le_max_right _ _)).1
 grind
theorem upE_lim {x b C:Rat} {M:Nat} (h:∀ n,M≤n → exF n x≤b + C * hn n):UpE x b:=by
 obtain ⟨N,hN⟩:=half_base x
 refine ⟨N,fun n hn' => ?_⟩
 refine lim_le (C:=C) (M:=max M n) fun k hk => ?_
 have h1:=exF_ups (x:=x) (n:=n) (k:=k) (fun j hj => (hN j (by omega)).1) (by omega)
 exact Rat.le_trans h1 (h k (by omega))
theorem exF_prod (n:Nat) (x:Rat):exF n x * exF n (-x) = sqn n (1 + -(x * x * hn n) * hn n):=by
 unfold exF
 rw [← sqn_mul]
 congr 1
 grind
theorem exF_pair {x:Rat}:∃ N,∀ n,N≤n → 1 - x * x * hn n≤exF n x * exF n (-x):=by
 obtain ⟨N,hN⟩:=small_hn (x * x) (show (0:Rat) < 1 by grind)
 refine ⟨N,fun n h => ?_⟩
 rw [exF_prod]
 have h1:=hN n h
 have:=bern n (y := -(x * x * hn n)) (by grind)
 grind
theorem LoE.le {a x b:Rat} (h1:LoE a x) (h2:UpE x b):a≤b:=by
 have hb:=h2.pos
 by_cases ha:a≤0
 ·grind
 obtain ⟨N1,h1⟩:=h1
 obtain ⟨N2,h2⟩:=h2
 obtain ⟨N3,h3⟩:=exF_pair (x:=x)
 obtain ⟨N4,h4⟩:=half_base x
 refine lim_le (C:=a * (x * x)) (M:=N1 + N2 + N3 + N4) fun n hn' => ?_
 have a1:=h1 n (by omega)
 have a2:=h2 n (by omega)
 have a3:=h3 n (by omega)
 have a4:=exF_pos (h4 n (by omega)).1
 have b1:a * exF n (-x) * exF n x≤1 * exF n x:=Rat.mul_le_mul_of_nonneg_right a1 (Rat.le_of_lt a4)
 have b2:a * (1 - x * x * hn n)≤a * (exF n x * exF n (-x)):=Rat.mul_le_mul_of_nonneg_left a3 (by grind)
 grind
theorem UpE.up {x b c:Rat} (h:UpE x b) (hc:b≤c):UpE x c:=by
 obtain ⟨N,h⟩:=h
 exact ⟨N,fun n hn' => Rat.le_trans (h n hn') hc⟩
theorem UpE.mono {x y b:Rat} (h:UpE y b) (hxy:x≤y):UpE x b:=by
 obtain ⟨N,h⟩:=h
 obtain ⟨M,hM⟩:=half_base x
 refine ⟨N + M,fun n hn' => Rat.le_trans (exF_mono ?_ hxy) (h n (by omega))⟩
 have:=hM n (by omega)
 grind
theorem LoE.down {x a c:Rat} (h:LoE a x) (hc:c≤a):LoE c x:=by
 obtain ⟨N,h⟩:=h
 obtain ⟨M,hM⟩:=half_base (-x)
 refine ⟨N + M,fun n hn' => ?_⟩
 have h2:=exF_pos (hM n (by omega)).1
 exact Rat.le_trans (Rat.mul_le_mul_of_nonneg_right hc (Rat.le_of_lt h2)) (h n (by omega))
theorem LoE.zero (x:Rat):LoE 0 x:=⟨0,fun n _ => by grind⟩
theorem LoE.mono {x y a:Rat} (h:LoE a x) (hxy:x≤y) (ha:0≤a):LoE a y:=by
 obtain ⟨N,h⟩:=h
 obtain ⟨M,hM⟩:=half_base (-y)
 refine ⟨N + M,fun n hn' => Rat.le_trans (Rat.mul_le_mul_of_nonneg_left (exF_mono ?_ (by grind)) ha) (h n (by omega))⟩
 have:=hM n (by omega)
 grind
theorem UpE.neg {x b:Rat} (h:UpE x b):LoE b⁻¹ (-x):=by
 have hb:=h.pos
 obtain ⟨N,h⟩:=h
 refine ⟨N,fun n hn' => ?_⟩
 rw [Rat.neg_neg]
 have h1:=h n hn'
 have h2:0 < b⁻¹:=Rat.inv_pos.2 hb
 have:=Rat.mul_le_mul_of_nonneg_left h1 (Rat.le_of_lt h2)
 rw [Rat.inv_mul_cancel b (by grind)] at this
 exact this
theorem LoE.neg {x a:Rat} (h:LoE a x) (ha:0 < a):UpE (-x) a⁻¹:=by
 obtain ⟨N,h⟩:=h
 refine ⟨N,fun n hn' => ?_⟩
 have h1:=h n hn'
 have h2:0 < a⁻¹:=Rat.inv_pos.2 ha
 have:=Rat.mul_le_mul_of_nonneg_left h1 (Rat.le_of_lt h2)
 rw [← Rat.mul_assoc,Rat.inv_mul_cancel a (by grind)] at this
 grind
theorem UpE.add {x y b c:Rat} (h:UpE x b) (k:UpE y c):UpE (x + y) (b * c):=by
 have hb:=h.pos
 have hc:=k.pos
 obtain ⟨N1,h⟩:=h
 obtain ⟨N2,k⟩:=k
 obtain ⟨M1,hM1⟩:=half_base x
 obtain ⟨M2,hM2⟩:=half_base y
 obtain ⟨M3,hM3⟩:=half_base (x + y)
 -- a bound of |x y|
 obtain ⟨P,hP1,hP2⟩:=nat_above (x * y)
 have hP0:(0:Rat)≤(P:Rat):=by exact_mod_cast Nat.zero_le P
 obtain ⟨M4,hM4⟩:=small_hn (2 * (P:Rat)) (show (0:Rat) < 1 by grind)
 refine ⟨M3,fun n hn3 => ?_⟩
 obtain ⟨F,hF⟩:=nm9 (exF n (x + y))
 rw [hF]
 refine lim_le (C:=F * (2 * (P:Rat))) (M:=N1 + N2 + M1 + M2 + M4 + n) fun m hm => ?_
 have e0:=hn_pos m
 have a1:=h m (by omega)
 have a2:=k m (by omega)
 have a3:=hM1 m (by omega)
 have a4:=hM2 m (by omega)
 have a5:=hM3 m (by omega)
 have a6:=hM4 m (by omega)
 have b1:=exF_ups (x:=x + y) (n:=n) (k:=m) (fun j hj => (hM3 j (by omega)).1) (by omega)
 have b2:=exF_pos a3.1
 have b3:=exF_pos a4.1
 have b4:=exF_pos a5.1
 have b5:=exF_pos (hM3 n hn3).1
 rw [hF] at b1 b5
 -- (1 + (x + y) h) (1 - 2 P h h) is at most the product
 have q1:(1 + (x + y) * hn m) * (1 + -(2 * (P:Rat) * hn m) * hn m)≤(1 + x * hn m) * (1 + y * hn m):=by
  have w1:0≤hn m * hn m:=rsq_nn _
  have w2:=Rat.mul_le_mul_of_nonneg_right hP2 w1
  have w3:(P:Rat) * (hn m * hn m)≤(1 + (x + y) * hn m) * (2 * ((P:Rat) * (hn m * hn m))):=by
   have w4:0≤(P:Rat) * (hn m * hn m):=Rat.mul_nonneg hP0 w1
   have:=Rat.mul_le_mul_of_nonneg_right (show (1:Rat)≤2 * (1 + (x + y) * hn m) by grind) w4
   grind
  grind
 have q2:=sqn_mono (n:=m) (Rat.mul_nonneg (show 0≤1 + (x + y) * hn m by grind) (show 0≤1 + -(2 * (P:Rat) * hn m) * hn m by
  have w1:hn m≤1:=hn_le (Nat.zero_le m)
  have w2:=Rat.mul_le_mul_of_nonneg_right a6.2 (Rat.le_of_lt e0)
  grind)) q1
 rw [sqn_mul,sqn_mul] at q2
 have q3:=bern m (y := -(2 * (P:Rat) * hn m)) (by grind)
 have q4:exF m (x + y) * (1 + -(2 * (P:Rat) * hn m))≤exF m (x + y) * sqn m (1 + -(2 * (P:Rat) * hn m) * hn m):=Rat.mul_le_mul_of_nonneg_left q3 (Rat.le_of_lt b4)
 have q5:exF m x * exF m y≤b * c:=rmul_le a1 a2 (Rat.le_of_lt b3) (Rat.le_of_lt hb)
 have q6:F * (1 + -(2 * (P:Rat) * hn m))≤exF m (x + y) * (1 + -(2 * (P:Rat) * hn m)):=Rat.mul_le_mul_of_nonneg_right b1 (by grind)
 have q7:exF m (x + y) * sqn m (1 + -(2 * (P:Rat) * hn m) * hn m)≤exF m x * exF m y:=q2
 grind
theorem LoE.add {x y a c:Rat} (h:LoE a x) (k:LoE c y) (ha:0 < a) (hc:0 < c):LoE (a * c) (x + y):=by
 have h1:=(h.neg ha).add (k.neg hc)
 have h2:=h1.neg
 rw [show -(-x + -y) = x + y by grind] at h2
 have e:(a⁻¹ * c⁻¹)⁻¹ = a * c:=by
  have:a ≠ 0:=by grind
  have:c ≠ 0:=by grind
  grind
 rwa [e] at h2
def tm:Nat → Rat → Rat
 | 0,_ => 1
 | k + 1,t => tm k t * t / ((k:Rat) + 1)
def esm:Nat → Rat → Rat
 | 0,_ => 0
 | k + 1,t => esm k t + tm k t
theorem nat_nn (k:Nat):(0:Rat)≤(k:Rat):=by exact_mod_cast Nat.zero_le k
theorem tm_mul (k:Nat) (t:Rat):tm (k + 1) t * ((k:Rat) + 1) = tm k t * t:=by
 show tm k t * t / ((k:Rat) + 1) * ((k:Rat) + 1) = tm k t * t
 have:=nat_nn k
 exact Rat.div_mul_cancel (by grind)
theorem div_nn {a b:Rat} (h:0≤a) (h2:0 < b):0≤a / b:=by
 rw [Rat.div_def]
 exact Rat.mul_nonneg h (Rat.le_of_lt (Rat.inv_pos.2 h2))
theorem tm_nn (k:Nat) {t:Rat} (h:0≤t):0≤tm k t:=by
  induction k with
  | zero => show (0:Rat)≤1;grind
  | succ k ih =>
    have:=nat_nn k
    exact div_nn (Rat.mul_nonneg ih h) (by grind)
theorem esm_nn (k:Nat) {t:Rat} (h:0≤t):0≤esm k t:=by
  induction k with
  | zero => show (0:Rat)≤0;grind
  | succ k ih =>
    have:=tm_nn k h
    show 0≤esm k t + tm k t
    grind
theorem le_of_mul {a b c:Rat} (hc:0 < c) (h:a * c≤b * c):a≤b:=by
 refine Rat.not_lt.1 fun hlt => ?_
 have:=Rat.mul_lt_mul_of_pos_right hlt hc
 grind
theorem tm_diff (k:Nat) {s h:Rat} (hs:0≤s) (hh:0≤h):h * tm k s≤tm (k + 1) (s + h) - tm (k + 1) s∧tm (k + 1) (s + h) - tm (k + 1) s≤h * tm k (s + h):=by
  induction k with
  | zero =>
    have e:∀ x:Rat,tm 1 x = x:=fun x => by
      have:=tm_mul 0 x
      rw [show tm 0 x = 1 from rfl,show ((0:Nat):Rat) = 0 from rfl] at this
      grind
    rw [e,e,show tm 0 s = 1 from rfl,show tm 0 (s + h) = 1 from rfl]
    grind
  | succ k ih =>
    have h0:=nat_nn k
    have a1:=tm_mul (k + 1) (s + h)
    have a2:=tm_mul (k + 1) s
    have a3:=tm_mul k (s + h)
    have a4:=tm_mul k s
    have e:((k + 1:Nat):Rat) = (k:Rat) + 1:=by push_cast;rfl
    rw [e] at a1 a2
    have b0:=tm_nn k hs
    have b1:=tm_nn (k + 1) hs
    have b2:=tm_nn k (show 0≤s + h by grind)
    have b3:=tm_nn (k + 1) (show 0≤s + h by grind)
    have m1:tm (k + 1) s≤tm (k + 1) (s + h):=by
      have:=Rat.mul_nonneg hh b0
      grind
    have c1:=Rat.mul_le_mul_of_nonneg_right ih.1 (show 0≤s + h by grind)
    have c2:=Rat.mul_le_mul_of_nonneg_right ih.2 (show 0≤s + h by grind)
    have c3:=Rat.mul_nonneg (Rat.mul_nonneg hh b0) hh
    have c4:=Rat.mul_le_mul_of_nonneg_left m1 hh
    have a5:h * (tm (k + 1) s * ((k:Rat) + 1)) = h * (tm k s * s):=by rw [a4]
    have a6:h * (tm (k + 1) (s + h) * ((k:Rat) + 1)) = h * (tm k (s + h) * (s + h)):=by rw [a3]
    constructor
    · refine le_of_mul (show 0 < (k:Rat) + 1 + 1 by grind) ?_
      grind
    · refine le_of_mul (show 0 < (k:Rat) + 1 + 1 by grind) ?_
      grind
theorem tm_mono (k:Nat) {s h:Rat} (hs:0≤s) (hh:0≤h):tm k s≤tm k (s + h):=by
  match k with
  | 0 => exact Rat.le_refl
  | k + 1 =>
    have:=(tm_diff k hs hh).1
    have:=Rat.mul_nonneg hh (tm_nn k hs)
    grind
theorem esm_mono (k:Nat) {s h:Rat} (hs:0≤s) (hh:0≤h):esm k s≤esm k (s + h):=by
  induction k with
  | zero => exact Rat.le_refl
  | succ k ih =>
    have:=tm_mono k hs hh
    show esm k s + tm k s≤esm k (s + h) + tm k (s + h)
    grind
theorem esm_diff (k:Nat) {s h:Rat} (hs:0≤s) (hh:0≤h):h * esm k s≤esm (k + 1) (s + h) - esm (k + 1) s∧esm (k + 1) (s + h) - esm (k + 1) s≤h * esm k (s + h):=by
  induction k with
  | zero =>
    show h * 0≤0 + 1 - (0 + 1)∧0 + 1 - (0 + 1)≤h * 0
    grind
  | succ k ih =>
    have d:=tm_diff k hs hh
    show h * (esm k s + tm k s)≤esm (k + 1) (s + h) + tm (k + 1) (s + h) - (esm (k + 1) s + tm (k + 1) s)∧esm (k + 1) (s + h) + tm (k + 1) (s + h) - (esm (k + 1) s + tm (k + 1) s)≤h * (esm k (s + h) + tm k (s + h))
    grind
def rp (b:Rat):Nat → Rat
 | 0 => 1
 | j + 1 => rp b j * b
theorem rp_add (b:Rat) (i j:Nat):rp b (i + j) = rp b i * rp b j:=by
  induction j with
  | zero => show rp b i = rp b i * 1;grind
  | succ j ih =>
    show rp b (i + j) * b = rp b i * (rp b j * b)
    rw [ih]
    grind
theorem sqn_rp (n:Nat) (b:Rat):sqn n b = rp b (2 ^ n):=by
 induction n with
 | zero => show b = 1 * b;grind
 | succ n ih => rw [sqn_succ,ih,Nat.pow_succ,Nat.mul_two,rp_add]
theorem rp_nn {b:Rat} (h:0≤b) (j:Nat):0≤rp b j:=by
 induction j with
 | zero => show (0:Rat)≤1;grind
 | succ j ih => exact Rat.mul_nonneg ih h
theorem two_hn (n:Nat):((2 ^ n:Nat):Rat) * hn n = 1:=by
  induction n with
  | zero => show ((1:Nat):Rat) * 1 = 1;rw [show ((1:Nat):Rat) = 1 from rfl];grind
  | succ n ih =>
    rw [hn_succ,Nat.pow_succ]
    have e:((2 ^ n * 2:Nat):Rat) = ((2 ^ n:Nat):Rat) * 2:=by push_cast;rfl
    rw [e]
    grind
theorem esm_lo (K:Nat) {t:Rat} (ht:0≤t):LoE (esm K t) t:=by
  obtain ⟨N,hN⟩:=small_hn t (show (0:Rat) < 1 by grind)
  refine ⟨N,fun n hn' => ?_⟩
  have h0:=hn_pos n
  have h1:=(hN n hn').2
  obtain ⟨h,hh⟩:=nm9 (t * hn n)
  rw [hh] at h1
  have hh0:0≤h:=by rw [← hh];exact Rat.mul_nonneg ht (Rat.le_of_lt h0)
  have e1:exF n (-t) = rp (1 - h) (2 ^ n):=by
    unfold exF
    rw [sqn_rp,← hh]
    congr 1
    grind
  have e2:((2 ^ n:Nat):Rat) * h = t:=by
    have:=two_hn n
    rw [← hh]
    grind
  -- step by step
  have key:∀ j:Nat,esm K ((j:Rat) * h) * rp (1 - h) j≤1:=fun j => by
    induction j with
    | zero =>
      have:∀ K,esm K ((0:Nat) * h)≤1:=fun K => by
        have z:((0:Nat):Rat) * h = 0:=by rw [show ((0:Nat):Rat) = 0 from rfl];grind
        rw [z]
        match K with
        | 0 => show (0:Rat)≤1;grind
        | K + 1 =>
          have:∀ k,tm (k + 1) 0 = 0:=fun k => by
            have h1:=tm_mul k 0
            have h2:=nat_nn k
            have h3:tm (k + 1) 0 * ((k:Rat) + 1) = 0:=by rw [h1];grind
            exact (Rat.mul_eq_zero.1 h3).resolve_right (by grind)
          have s1:∀ k,esm (k + 1) 0 = 1:=fun k => by
            induction k with
            | zero => show (0:Rat) + 1 = 1;grind
            | succ k ih =>
              show esm (k + 1) 0 + tm (k + 1) 0 = 1
              rw [ih,this]
              grind
          rw [s1]
          exact Rat.le_refl
      show esm K ((0:Nat) * h) * 1≤1
      have:=this K
      grind
    | succ j ih =>
      have hj:(0:Rat)≤(j:Rat) * h:=Rat.mul_nonneg (nat_nn j) hh0
      have e:((j + 1:Nat):Rat) * h = (j:Rat) * h + h:=by
        have:((j + 1:Nat):Rat) = (j:Rat) + 1:=by push_cast;rfl
        rw [this]
        grind
      rw [e]
      show esm K ((j:Rat) * h + h) * (rp (1 - h) j * (1 - h))≤1
      have d:esm K ((j:Rat) * h + h) * (1 - h)≤esm K ((j:Rat) * h):=by
        match K with
        | 0 => show (0:Rat) * (1 - h)≤0;grind
        | K + 1 =>
          have d1:=(esm_diff K hj hh0).2
          have d2:=tm_nn K (show 0≤(j:Rat) * h + h by grind)
          have d3:=Rat.mul_nonneg hh0 d2
          have d4:esm (K + 1) ((j:Rat) * h + h) = esm K ((j:Rat) * h + h) + tm K ((j:Rat) * h + h):=rfl
          generalize (j:Rat) * h + h = s at *
          generalize esm (K + 1) ((j:Rat) * h) = E1 at *
          have d5:h * esm (K + 1) s = h * esm K s + h * tm K s:=by rw [d4];grind
          generalize esm (K + 1) s = E2 at *
          generalize esm K s = E3 at *
          generalize tm K s = T3 at *
          grind
      have p:=rp_nn (show 0≤1 - h by grind) j
      have:=Rat.mul_le_mul_of_nonneg_right d p
      grind
  have:=key (2 ^ n)
  rw [e2] at this
  rw [e1]
  exact this
theorem esm_up (K:Nat) {t:Rat} (ht:0≤t) (hK:2 * t≤(K:Rat) + 1):UpE t (esm (K + 1) t + 2 * tm (K + 1) t):=by
  refine ⟨0,fun n _ => ?_⟩
  have h0:=hn_pos n
  obtain ⟨h,hh⟩:=nm9 (t * hn n)
  have hh0:0≤h:=by rw [← hh];exact Rat.mul_nonneg ht (Rat.le_of_lt h0)
  have e1:exF n t = rp (1 + h) (2 ^ n):=by
    unfold exF
    rw [sqn_rp,← hh]
  have e2:((2 ^ n:Nat):Rat) * h = t:=by
    have:=two_hn n
    rw [← hh]
    grind
  have key:∀ j:Nat,(j:Rat) * h≤t → rp (1 + h) j≤esm (K + 1) ((j:Rat) * h) + 2 * tm (K + 1) ((j:Rat) * h):=fun j => by
    induction j with
    | zero =>
      intro _
      have z:((0:Nat):Rat) * h = 0:=by rw [show ((0:Nat):Rat) = 0 from rfl];grind
      rw [z]
      have a1:=tm_nn (K + 1) (show (0:Rat)≤0 by grind)
      have a2:=esm_nn K (show (0:Rat)≤0 by grind)
      have s1:∀ k,1≤esm (k + 1) 0:=fun k => by
        induction k with
        | zero => show (1:Rat)≤0 + 1;grind
        | succ k ih =>
          have:=tm_nn (k + 1) (show (0:Rat)≤0 by grind)
          show 1≤esm (k + 1) 0 + tm (k + 1) 0
          grind
      have:=s1 K
      show (1:Rat)≤_
      grind
    | succ j ih =>
      intro hj1
      have e:((j + 1:Nat):Rat) * h = (j:Rat) * h + h:=by
        have:((j + 1:Nat):Rat) = (j:Rat) + 1:=by push_cast;rfl
        rw [this]
        grind
      rw [e] at hj1 ⊢
      have hj:(0:Rat)≤(j:Rat) * h:=Rat.mul_nonneg (nat_nn j) hh0
      have i1:=ih (by grind)
      obtain ⟨s,hs⟩:=nm9 ((j:Rat) * h)
      rw [hs] at i1 hj hj1 ⊢
      have d1:=(esm_diff K hj hh0).1
      have d2:=(tm_diff K hj hh0).1
      have d3:esm (K + 1) s = esm K s + tm K s:=rfl
      have d4:=tm_mul K s
      have d5:=tm_nn K hj
      have d6:=tm_nn (K + 1) hj
      -- tm K s is at least twice the next term
      have d7:2 * tm (K + 1) s≤tm K s:=by
        refine le_of_mul (show 0 < (K:Rat) + 1 by have:=nat_nn K;grind) ?_
        have:=Rat.mul_le_mul_of_nonneg_left (show 2 * s≤(K:Rat) + 1 by grind) d5
        grind
      have d8:=Rat.mul_le_mul_of_nonneg_left d7 hh0
      show rp (1 + h) j * (1 + h)≤_
      have d9:=Rat.mul_le_mul_of_nonneg_right i1 (show 0≤1 + h by grind)
      have d10:h * esm (K + 1) s = h * esm K s + h * tm K s:=by rw [d3];grind
      clear ih hs e i1 d3 d4 d7
      generalize esm (K + 1) (s + h) = A1 at *
      generalize tm (K + 1) (s + h) = A2 at *
      generalize esm (K + 1) s = A3 at *
      generalize tm (K + 1) s = A4 at *
      generalize esm K s = A5 at *
      generalize tm K s = A6 at *
      generalize rp (1 + h) j = A7 at *
      have d11:(A3 + 2 * A4) * (1 + h) = A3 + 2 * A4 + h * A3 + h * (2 * A4):=by grind
      rw [d11] at d9
      clear d11 e1 e2 hK ht
      grind
  have:=key (2 ^ n) (by rw [e2];exact Rat.le_refl)
  rw [e2] at this
  rw [e1]
  exact this
def sgk:Nat → Rat
 | 0 => 1
 | k + 1 => -sgk k
theorem sgk_or (k:Nat):sgk k = 1 ∨ sgk k = -1:=by
  induction k with
  | zero => exact Or.inl rfl
  | succ k ih =>
    rcases ih with h | h
    · exact Or.inr (by show -sgk k = -1;rw [h])
    · exact Or.inl (by show -sgk k = 1;rw [h];grind)
theorem tm_neg (k:Nat) (t:Rat):tm k (-t) = sgk k * tm k t:=by
  induction k with
  | zero => show (1:Rat) = 1 * 1;grind
  | succ k ih =>
    have h0:=nat_nn k
    have h1:=tm_mul k (-t)
    have h2:=tm_mul k t
    have h3:(tm (k + 1) (-t) - sgk (k + 1) * tm (k + 1) t) * ((k:Rat) + 1) = 0:=by
      have e:sgk (k + 1) = -sgk k:=rfl
      rw [ih] at h1
      rw [e]
      have h4:sgk k * (tm (k + 1) t * ((k:Rat) + 1)) = sgk k * (tm k t * t):=by rw [h2]
      grind
    have:=(Rat.mul_eq_zero.1 h3).resolve_right (by grind)
    grind
def tb:Nat → Rat → Rat
 | 0,_ => 0
 | k + 1,t => tm k t
theorem tm_second (k:Nat) {s h:Rat} (hs:0≤s) (hh:0≤h):0≤tm (k + 1) (s + h) - tm (k + 1) s - h * tm k s∧tm (k + 1) (s + h) - tm (k + 1) s - h * tm k s≤h * h * tb k (s + h):=by
  have d:=tm_diff k hs hh
  refine ⟨by grind,?_⟩
  match k with
  | 0 =>
    have e1:tm 0 s = 1:=rfl
    have e2:tm 0 (s + h) = 1:=rfl
    have e3:tb 0 (s + h) = 0:=rfl
    rw [e2] at d
    rw [e1,e3]
    grind
  | k + 1 =>
    have d2:=Rat.mul_le_mul_of_nonneg_left (tm_diff k hs hh).2 hh
    have e3:tb (k + 1) (s + h) = tm k (s + h):=rfl
    rw [e3]
    grind
def esb:Nat → Rat → Rat
 | 0,_ => 0
 | k + 1,t => esb k t + tb k t
theorem esb_succ (k:Nat) (t:Rat):esb (k + 1) t = esm k t:=by
  induction k with
  | zero => show (0:Rat) + 0 = 0;grind
  | succ k ih =>
    show esb (k + 1) t + tm k t = esm k t + tm k t
    rw [ih]
theorem esb_le (k:Nat) {t:Rat} (h:0≤t):esb k t≤esm k t:=by
  match k with
  | 0 => exact Rat.le_refl
  | k + 1 =>
    rw [esb_succ]
    have:=tm_nn k h
    show esm k t≤esm k t + tm k t
    grind
theorem esm_second (K:Nat) {s h:Rat} (hs:0≤s) (hh:0≤h):-(h * h * esb K (s + h))≤esm (K + 1) (-(s + h)) - esm (K + 1) (-s) + h * esm K (-s)∧esm (K + 1) (-(s + h)) - esm (K + 1) (-s) + h * esm K (-s)≤h * h * esb K (s + h):=by
  induction K with
  | zero =>
    show -(h * h * 0)≤0 + 1 - (0 + 1) + h * 0∧0 + 1 - (0 + 1) + h * 0≤h * h * 0
    grind
  | succ K ih =>
    obtain ⟨a1,a2⟩:=tm_second K hs hh
    have e1:esm (K + 1 + 1) (-(s + h)) = esm (K + 1) (-(s + h)) + tm (K + 1) (-(s + h)):=rfl
    have e2:esm (K + 1 + 1) (-s) = esm (K + 1) (-s) + tm (K + 1) (-s):=rfl
    have e3:h * esm (K + 1) (-s) = h * esm K (-s) + h * tm K (-s):=by
      show h * (esm K (-s) + tm K (-s)) = _
      grind
    have e4:h * h * esb (K + 1) (s + h) = h * h * esb K (s + h) + h * h * tb K (s + h):=by
      show h * h * (esb K (s + h) + tb K (s + h)) = _
      grind
    have e5:sgk (K + 1) = -sgk K:=rfl
    have t1:=tm_neg (K + 1) (s + h)
    have t2:=tm_neg (K + 1) s
    have t3:=tm_neg K s
    rw [e1,e2,e3,e4]
    rcases sgk_or K with g | g
    · rw [e5,g] at t1 t2
      rw [g] at t3
      rw [t1,t2,t3]
      grind
    · rw [e5,g] at t1 t2
      rw [g] at t3
      rw [t1,t2,t3]
      grind
theorem esm_at0 (k:Nat):esm (k + 1) (-0) = 1:=by
  have:∀ k,tm (k + 1) (-0) = 0:=fun k => by
    have h1:=tm_mul k (-0)
    have h2:=nat_nn k
    have h3:tm (k + 1) (-0) * ((k:Rat) + 1) = 0:=by rw [h1];grind
    exact (Rat.mul_eq_zero.1 h3).resolve_right (by grind)
  induction k with
  | zero => show (0:Rat) + 1 = 1;grind
  | succ k ih =>
    show esm (k + 1) (-0) + tm (k + 1) (-0) = 1
    rw [ih,this]
    grind
theorem neg_step (K:Nat) {t h:Rat} (hh:0≤h) (h1:h≤1) (j:Nat) (hj:(j:Rat) * h≤t) :
    rp (1 - h) j≤esm (K + 1) (-((j:Rat) * h)) + tm (K + 1) ((j:Rat) * h) + esm K t * (h * h) * (j:Rat) ∧
    esm (K + 1) (-((j:Rat) * h)) - tm (K + 1) ((j:Rat) * h) - esm K t * (h * h) * (j:Rat)≤rp (1 - h) j:=by
  induction j with
  | zero =>
    have z:((0:Nat):Rat) * h = 0:=by rw [show ((0:Nat):Rat) = 0 from rfl];grind
    have z2:((0:Nat):Rat) = 0:=rfl
    rw [z,esm_at0,z2]
    have:=tm_nn (K + 1) (show (0:Rat)≤0 by grind)
    show (1:Rat)≤_∧_≤(1:Rat)
    grind
  | succ j ih =>
    have e0:((j + 1:Nat):Rat) = (j:Rat) + 1:=by push_cast;rfl
    have e:((j + 1:Nat):Rat) * h = (j:Rat) * h + h:=by rw [e0];grind
    rw [e] at hj
    rw [e,e0]
    have hj0:(0:Rat)≤(j:Rat) * h:=Rat.mul_nonneg (nat_nn j) hh
    obtain ⟨i1,i2⟩:=ih (by grind)
    have hjn:=nat_nn j
    obtain ⟨s,hs⟩:=nm9 ((j:Rat) * h)
    rw [hs] at i1 i2 hj hj0 ⊢
    obtain ⟨d1,d2⟩:=esm_second K hj0 hh
    have d3:=(tm_diff K hj0 hh).1
    have d4:h * esm (K + 1) (-s) = h * esm K (-s) + h * tm K (-s):=by
      show h * (esm K (-s) + tm K (-s)) = _
      grind
    have d5:=tm_neg K s
    have d6:=Rat.mul_nonneg hh (tm_nn K hj0)
    have d7:=Rat.mul_nonneg hh (tm_nn (K + 1) hj0)
    have d8:h * h * esb K (s + h)≤h * h * esm K t:=by
      refine Rat.mul_le_mul_of_nonneg_left ?_ (rsq_nn h)
      refine Rat.le_trans (esb_le K (by grind)) ?_
      have:=esm_mono K (s:=s + h) (h:=t - (s + h)) (by grind) (by grind)
      rwa [show s + h + (t - (s + h)) = t by grind] at this
    have d9:0≤esm K t * (h * h) * (j:Rat):=Rat.mul_nonneg (Rat.mul_nonneg (esm_nn K (by grind)) (rsq_nn h)) hjn
    have d10:=Rat.mul_nonneg d9 hh
    have c1:=Rat.mul_le_mul_of_nonneg_right i1 (show 0≤1 - h by grind)
    have c2:=Rat.mul_le_mul_of_nonneg_right i2 (show 0≤1 - h by grind)
    show rp (1 - h) j * (1 - h)≤_∧_≤rp (1 - h) j * (1 - h)
    have d11:h * tm K (-s) = h * tm K s ∨ h * tm K (-s) = -(h * tm K s):=by
      rcases sgk_or K with g | g
      · rw [g] at d5;rw [d5];left;grind
      · rw [g] at d5;rw [d5];right;grind
    clear d5 ih e hs e0 i1 i2
    generalize esm (K + 1) (-(s + h)) = A1 at *
    generalize tm (K + 1) (s + h) = A2 at *
    generalize esm (K + 1) (-s) = A3 at *
    generalize tm (K + 1) s = A4 at *
    generalize esm K (-s) = A5 at *
    generalize h * tm K (-s) = A6 at *
    generalize h * tm K s = A7 at *
    generalize rp (1 - h) j * (1 - h) = A8 at *
    generalize esm K t = A9 at *
    generalize esb K (s + h) = B1 at *
    constructor
    · rcases d11 with g | g <;> grind
    · rcases d11 with g | g <;> grind
theorem exF_rp (n:Nat) (t:Rat):exF n (-t) = rp (1 - t * hn n) (2 ^ n):=by
 unfold exF
 rw [sqn_rp]
 congr 1
 grind
theorem neg_both (K:Nat) {t:Rat} (ht:0≤t):∃ N,∀ n,N≤n → exF n (-t)≤esm (K + 1) (-t) + tm (K + 1) t + esm K t * (t * t) * hn n∧esm (K + 1) (-t) - tm (K + 1) t - esm K t * (t * t) * hn n≤exF n (-t):=by
 obtain ⟨N,hN⟩:=small_hn t (show (0:Rat) < 1 by grind)
 refine ⟨N,fun n hn' => ?_⟩
 have h0:=hn_pos n
 have h1:=(hN n hn').2
 have e2:((2 ^ n:Nat):Rat) * (t * hn n) = t:=by
  have:=two_hn n
  grind
 have key:=neg_step K (t:=t) (h:=t * hn n) (Rat.mul_nonneg ht (Rat.le_of_lt h0)) h1 (2 ^ n) (by rw [e2];exact Rat.le_refl)
 rw [e2] at key
 have e3:esm K t * (t * hn n * (t * hn n)) * ((2 ^ n:Nat):Rat) = esm K t * (t * t) * hn n:=by
  have:esm K t * (t * hn n * (t * hn n)) * ((2 ^ n:Nat):Rat) = esm K t * (((2 ^ n:Nat):Rat) * (t * hn n)) * (t * hn n):=by grind
  rw [this,e2]
  grind
 rw [e3] at key
 rw [exF_rp]
 exact key
theorem neg_up (K:Nat) {t:Rat} (ht:0≤t):UpE (-t) (esm (K + 1) (-t) + tm (K + 1) t):=by
 obtain ⟨N,h⟩:=neg_both K ht
 exact upE_lim (C:=esm K t * (t * t)) (M:=N) fun n hn' => (h n hn').1
theorem upE_some (x:Rat):∃ b,UpE x b:=by
 obtain ⟨M,h1,_⟩:=nat_above (2 * x)
 by_cases h:0≤x
 ·exact ⟨_,esm_up M h (by grind)⟩
 ·refine ⟨1,UpE.mono (y:=0) ⟨0,fun n _ => ?_⟩ (by grind)⟩
  unfold exF
  rw [show (1:Rat) + 0 * hn n = 1 by grind,sqn_one]
  exact Rat.le_refl
theorem pair_le {x:Rat}:∃ N,∀ n,N≤n → exF n x * exF n (-x)≤1:=by
 obtain ⟨N,hN⟩:=half_base x
 refine ⟨N,fun n hn' => ?_⟩
 have h:=hN n hn'
 have h0:=hn_pos n
 unfold exF
 rw [← sqn_mul]
 have e:(1 + x * hn n) * (1 + -x * hn n) = 1 - (x * hn n) * (x * hn n):=by grind
 rw [e]
 have s:=rsq_nn (x * hn n)
 have s2:(x * hn n) * (x * hn n)≤1:=by
  by_cases p:0≤x * hn n
  ·have:=rmul_le h.2 h.2 p (by grind)
   grind
  ·have:=rmul_le (show -(x * hn n)≤1 / 2 by grind) (show -(x * hn n)≤1 / 2 by grind) (by grind) (by grind)
   grind
 have:=sqn_mono (n:=n) (show 0≤1 - (x * hn n) * (x * hn n) by grind) (show 1 - (x * hn n) * (x * hn n)≤1 by grind)
 rwa [sqn_one] at this
theorem neg_lo (K:Nat) {t:Rat} (ht:0≤t):LoE (esm (K + 1) (-t) - tm (K + 1) t) (-t):=by
 obtain ⟨W,hW⟩:=nm9 (esm (K + 1) (-t) - tm (K + 1) t)
 rw [hW]
 by_cases hw:W≤0
 ·exact (LoE.zero _).down hw
 obtain ⟨N1,h1⟩:=neg_both K ht
 rw [hW] at h1
 obtain ⟨N2,h2⟩:=pair_le (x:=t)
 obtain ⟨b,N3,h3⟩:=upE_some t
 obtain ⟨N4,h4⟩:=half_base t
 obtain ⟨C,hC⟩:=nm9 (esm K t * (t * t))
 rw [hC] at h1
 have hC0:0≤C:=by rw [← hC];exact Rat.mul_nonneg (esm_nn K ht) (rsq_nn t)
 refine ⟨N4,fun n hn' => ?_⟩
 rw [Rat.neg_neg]
 refine lim_le (C:=C * b) (M:=N1 + N2 + N3 + n) fun m hm => ?_
 have e0:=hn_pos m
 have a1:=(h1 m (by omega)).2
 have a2:=h2 m (by omega)
 have a3:=h3 m (by omega)
 have a4:=exF_pos (h4 m (by omega)).1
 have a5:=exF_ups (x:=t) (n:=n) (k:=m) (fun j hj => (h4 j (by omega)).1) (by omega)
 have b1:=Rat.mul_le_mul_of_nonneg_left a5 (show 0≤W by grind)
 have b2:=Rat.mul_le_mul_of_nonneg_right a1 (Rat.le_of_lt a4)
 have b3:=Rat.mul_le_mul_of_nonneg_left a3 (Rat.mul_nonneg hC0 (Rat.le_of_lt e0))
 grind
def rab (x:Rat):Rat:=if 0≤x then x else -x
theorem rab_nn (x:Rat):0≤rab x:=by unfold rab;split <;> grind
theorem exp_up (K:Nat) {x:Rat} (h:2 * rab x≤(K:Rat) + 1):UpE x (esm (K + 1) x + 2 * tm (K + 1) (rab x)):=by
 by_cases hx:0≤x
 ·have e:rab x = x:=by unfold rab;rw [if_pos hx]
  rw [e] at h ⊢
  exact esm_up K hx h
 ·have e:rab x = -x:=by unfold rab;rw [if_neg hx]
  have h1:=neg_up K (t := -x) (by grind)
  rw [Rat.neg_neg] at h1
  rw [e]
  have:=tm_nn (K + 1) (t := -x) (by grind)
  exact h1.up (by grind)
theorem exp_lo (K:Nat) (x:Rat):LoE (esm (K + 1) x - tm (K + 1) (rab x)) x:=by
 by_cases hx:0≤x
 ·have e:rab x = x:=by unfold rab;rw [if_pos hx]
  rw [e]
  have:=tm_nn (K + 1) hx
  exact (esm_lo (K + 1) hx).down (by grind)
 ·have e:rab x = -x:=by unfold rab;rw [if_neg hx]
  have h1:=neg_lo K (t := -x) (by grind)
  rw [Rat.neg_neg] at h1
  rw [e]
  exact h1
theorem exp_line (x:Rat):LoE (1 + x) x:=by
 by_cases hx:-1≤x
 ·obtain ⟨N,h⟩:=pair_le (x:=x)
  obtain ⟨M,hM⟩:=half_base (-x)
  refine ⟨N + M,fun n hn' => ?_⟩
  have h1:=h n (by omega)
  have h2:=exF_pos (hM n (by omega)).1
  have h3:=bern n hx
  have h4:=Rat.mul_le_mul_of_nonneg_right h3 (Rat.le_of_lt h2)
  have e:sqn n (1 + x * hn n) = exF n x:=rfl
  rw [e] at h4
  exact Rat.le_trans h4 h1
 ·exact (LoE.zero x).down (by grind)
theorem exp_0:LoE 1 0∧UpE 0 1:=by
 refine ⟨?_,⟨0,fun n _ => ?_⟩⟩
 ·have:=exp_line 0
  rwa [show (1:Rat) + 0 = 1 by grind] at this
 ·unfold exF
  rw [show (1:Rat) + 0 * hn n = 1 by grind,sqn_one]
  exact Rat.le_refl
def SpC (a b:Int) (v:Nat) (q:Rat):Prop:=dq a (-(v:Int))≤q∧q≤dq b (-(v:Int))
theorem SpC.le {a b:Int} {v:Nat} {q:Rat} (h:SpC a b v q):a≤b:=(dq_le_iff _ _ _).1 (Rat.le_trans h.1 h.2)
theorem dq_addI (a b e:Int):dq (a + b) e = dq a e + dq b e:=by
 rw [dq_scale,dq_scale a,dq_scale b,Rat.intCast_add,Rat.add_mul]
theorem SpC.add {a b c d:Int} {v:Nat} {q r:Rat} (h:SpC a b v q) (k:SpC c d v r):SpC (a + c) (b + d) v (q + r):=by
 obtain ⟨h1,h2⟩:=h
 obtain ⟨k1,k2⟩:=k
 unfold SpC
 rw [dq_addI,dq_addI]
 grind
theorem SpC.neg {a b:Int} {v:Nat} {q:Rat} (h:SpC a b v q):SpC (-b) (-a) v (-q):=by
 obtain ⟨h1,h2⟩:=h
 unfold SpC
 rw [dq_neg,dq_neg]
 grind
theorem SpC.of (n:Int) (v:Nat):SpC (n * 2 ^ v) (n * 2 ^ v) v (n:Rat):=by
 have e:dq (n * 2 ^ v) (-(v:Int)) = (n:Rat):=by
  rw [← dq_int]
  refine dq_eq (F := -(v:Int)) ?_ (by omega) (by omega)
  rw [show (-(v:Int) - -(v:Int)).toNat = 0 by omega,show (0 - -(v:Int)).toNat = v by omega]
  simp
 unfold SpC
 rw [e]
 exact ⟨Rat.le_refl,Rat.le_refl⟩
theorem SpC.at (q:Rat) (v:Nat):SpC (cutQ q (v:Int)) (-(cutQ (-q) (v:Int))) v q:=by
 refine ⟨cut_lo q _,?_⟩
 have:=cut_lo (-q) (v:Int)
 rw [dq_neg]
 grind
theorem fdiv_le {x n:Int} (hn:0 < n) (e:Int):dq (x / n) e * (n:Rat)≤dq x e:=by
 have h:=Int.ediv_mul_le x (show n ≠ 0 by omega)
 have:=(dq_le_iff (x / n * n) x e).2 h
 rw [dq_scale,Rat.intCast_mul] at this
 rw [dq_scale (x / n)]
 grind
theorem le_cdiv {x n:Int} (hn:0 < n) (e:Int):dq x e≤dq (cdv x n) e * (n:Rat):=by
 have h:=le_cdv (x:=x) hn
 have:=(dq_le_iff x (cdv x n * n) e).2 h
 rw [dq_scale (cdv x n * n),Rat.intCast_mul] at this
 rw [dq_scale (cdv x n)]
 grind
theorem SpC.over {a b n:Int} {v:Nat} {q:Rat} (h:SpC a b v q) (hn:0 < n):SpC (a / n) (cdv b n) v (q / (n:Rat)):=by
 obtain ⟨h1,h2⟩:=h
 have hp:(0:Rat) < (n:Rat):=by exact_mod_cast hn
 have e:q / (n:Rat) * (n:Rat) = q:=Rat.div_mul_cancel (by grind)
 refine ⟨le_of_mul hp ?_,le_of_mul hp ?_⟩
 ·rw [e];exact Rat.le_trans (fdiv_le hn _) h1
 ·rw [e];exact Rat.le_trans h2 (le_cdiv hn _)
def mn4 (a b c d:Int):Int:=min (min a b) (min c d)
def mx4 (a b c d:Int):Int:=max (max a b) (max c d)
theorem two_cast (v:Nat):(((2:Int) ^ v:Int):Rat) * dq 1 (-(v:Int)) = 1:=by
 rw [← dq_scale]
 have:=(SpC.of 1 v).1
 have h2:=(SpC.of 1 v).2
 rw [Int.one_mul] at this h2
 have e:((1:Int):Rat) = 1:=rfl
 rw [e] at this h2
 grind
theorem shr_lo {x:Int} {v:Nat} {q:Rat} (h:(x:Rat) * (dq 1 (-(v:Int)) * dq 1 (-(v:Int)))≤q):dq (x / 2 ^ v) (-(v:Int))≤q:=by
 refine Rat.le_trans ?_ h
 have h1:=fdiv_le (x:=x) (n:=2 ^ v) (pow2_pos v) (-(v:Int))
 have h2:=two_cast v
 have h3:=dq_pos (-(v:Int))
 have h4:=Rat.mul_le_mul_of_nonneg_right h1 (Rat.le_of_lt h3)
 rw [dq_scale x] at h4
 have e:dq (x / 2 ^ v) (-(v:Int)) * (((2:Int) ^ v:Int):Rat) * dq 1 (-(v:Int)) = dq (x / 2 ^ v) (-(v:Int)):=by
  rw [Rat.mul_assoc,h2]
  grind
 rw [e] at h4
 grind
theorem shr_hi {x:Int} {v:Nat} {q:Rat} (h:q≤(x:Rat) * (dq 1 (-(v:Int)) * dq 1 (-(v:Int)))):q≤dq (cdv x (2 ^ v)) (-(v:Int)):=by
 refine Rat.le_trans h ?_
 have h1:=le_cdiv (x:=x) (n:=2 ^ v) (pow2_pos v) (-(v:Int))
 have h2:=two_cast v
 have h3:=dq_pos (-(v:Int))
 have h4:=Rat.mul_le_mul_of_nonneg_right h1 (Rat.le_of_lt h3)
 rw [dq_scale x] at h4
 have e:dq (cdv x (2 ^ v)) (-(v:Int)) * (((2:Int) ^ v:Int):Rat) * dq 1 (-(v:Int)) = dq (cdv x (2 ^ v)) (-(v:Int)):=by
  rw [Rat.mul_assoc,h2]
  grind
 rw [e] at h4
 grind
theorem prod_dq (a c:Int) (v:Nat):dq a (-(v:Int)) * dq c (-(v:Int)) = ((a * c:Int):Rat) * (dq 1 (-(v:Int)) * dq 1 (-(v:Int))):=by
 rw [dq_scale a,dq_scale c,Rat.intCast_mul]
 grind
theorem prod_lo {a b c d:Int} {v:Nat} {q r:Rat} (h:SpC a b v q) (k:SpC c d v r):((mn4 (a * c) (a * d) (b * c) (b * d):Int):Rat) * (dq 1 (-(v:Int)) * dq 1 (-(v:Int)))≤q * r:=by
 obtain ⟨h1,h2⟩:=h
 obtain ⟨k1,k2⟩:=k
 have hu:=dq_pos (-(v:Int))
 have huu:0≤dq 1 (-(v:Int)) * dq 1 (-(v:Int)):=rsq_nn _
 have m:∀ x:Int,mn4 (a * c) (a * d) (b * c) (b * d)≤x → ((mn4 (a * c) (a * d) (b * c) (b * d):Int):Rat) * (dq 1 (-(v:Int)) * dq 1 (-(v:Int)))≤((x:Int):Rat) * (dq 1 (-(v:Int)) * dq 1 (-(v:Int))):=fun x hx => Rat.mul_le_mul_of_nonneg_right (Rat.intCast_le_intCast.2 hx) huu
 have m1:=m (a * c) (by unfold mn4;omega)
 have m2:=m (a * d) (by unfold mn4;omega)
 have m3:=m (b * c) (by unfold mn4;omega)
 have m4:=m (b * d) (by unfold mn4;omega)
 rw [← prod_dq] at m1 m2 m3 m4
 generalize ((mn4 (a * c) (a * d) (b * c) (b * d):Int):Rat) * (dq 1 (-(v:Int)) * dq 1 (-(v:Int))) = L at *
 generalize dq a (-(v:Int)) = A at *
 generalize dq b (-(v:Int)) = B at *
 generalize dq c (-(v:Int)) = C at *
 generalize dq d (-(v:Int)) = D at *
 by_cases hr:0≤r
 ·have e1:=Rat.mul_le_mul_of_nonneg_right h1 hr
  by_cases hA:0≤A
  ·have:=Rat.mul_le_mul_of_nonneg_left k1 hA
   grind
  ·have:=Rat.mul_le_mul_of_nonneg_left k2 (show 0≤-A by grind)
   grind
 ·have e1:=Rat.mul_le_mul_of_nonneg_right h2 (show 0≤-r by grind)
  by_cases hB:0≤B
  ·have:=Rat.mul_le_mul_of_nonneg_left k1 hB
   grind
  ·have:=Rat.mul_le_mul_of_nonneg_left k2 (show 0≤-B by grind)
   grind
theorem mx4_neg (a b c d:Int):mx4 a b c d = -(mn4 (-a) (-b) (-c) (-d)):=by
 unfold mx4 mn4
 omega
theorem prod_hi {a b c d:Int} {v:Nat} {q r:Rat} (h:SpC a b v q) (k:SpC c d v r):q * r≤((mx4 (a * c) (a * d) (b * c) (b * d):Int):Rat) * (dq 1 (-(v:Int)) * dq 1 (-(v:Int))):=by
 have h1:=prod_lo h.neg k
 have e:mn4 (-b * c) (-b * d) (-a * c) (-a * d) = -(mx4 (a * c) (a * d) (b * c) (b * d)):=by
  rw [mx4_neg,Int.neg_mul,Int.neg_mul,Int.neg_mul,Int.neg_mul]
  unfold mn4
  omega
 rw [e,Rat.intCast_neg] at h1
 grind
theorem SpC.mul {a b c d:Int} {v:Nat} {q r:Rat} (h:SpC a b v q) (k:SpC c d v r):SpC (mn4 (a * c) (a * d) (b * c) (b * d) / 2 ^ v) (cdv (mx4 (a * c) (a * d) (b * c) (b * d)) (2 ^ v)) v (q * r):=
 ⟨shr_lo (prod_lo h k),shr_hi (prod_hi h k)⟩
def RSp (a b:Int) (v:Nat) (x:Rat):Prop:=LoE (dq a (-(v:Int))) x∧UpE x (dq b (-(v:Int)))
theorem np {T:Int} {p j:Nat} (h:AbP T j) (hj:j≤3000) (hp:p≤3000) :
  mkR T (-(p:Int)) = 0∧zl (mkM T (-(p:Int)))≤j / 32 + 1∧(-(p:Int)≤mkE T (-(p:Int))∧mkE T (-(p:Int))≤(j:Int) + 32)∧Dv (mkM T (-(p:Int))) (mkE T (-(p:Int)))∧dq (mkM T (-(p:Int))) (mkE T (-(p:Int))) = dq T (-(p:Int)):=by
 have hz:=h.zl
 have hr:mkR T (-(p:Int)) = 0:=mk_fits2 (by omega) (by omega) (by omega)
 have z1:=zl_mk T (-(p:Int))
 have z2:=mkE_at hr (k:=j / 32 + 1) hz
 exact ⟨hr,by omega,by omega,mk_ok hr,dq_mk hr⟩
theorem np_same {M E:Int} (hv:Dv M E) (hz:zl M≤1900) (he:-60000≤E∧E≤4000):mkR M (E + 0) = 0∧mkM M (E + 0) = M∧mkE M (E + 0) = E:=by
 have hr:mkR M (E + 0) = 0:=mk_fits2 hz (by omega) (by omega)
 exact ⟨hr,dv_uniq (mk_ok hr) hv (by rw [dq_mk hr,Int.add_zero])⟩
def fz (T:Int):Nat:=if T = 0 then 0 else if T = -1 then 1 else if T = 1 then 2 else Nat.log2 T.natAbs / 16 + 3
theorem fz_ge {T:Int} (h:2≤T.natAbs):fz T = Nat.log2 T.natAbs / 16 + 3:=by
 unfold fz
 rw [if_neg (by omega),if_neg (by omega),if_neg (by omega)]
theorem fz_le {T:Int} (h:T.natAbs≤1):fz T≤2:=by
 unfold fz
 split
 ·omega
 ·split
  ·omega
  ·rw [if_pos (by omega)]
   exact Nat.le_refl 2
theorem fz_two (p:Nat):fz (2 ^ p)≤p / 16 + 3:=by
 have e:((2:Int) ^ p).natAbs = 2 ^ p:=by rw [Int.natAbs_pow];rfl
 by_cases h:2≤((2:Int) ^ p).natAbs
 ·rw [fz_ge h,e,Nat.log2_two_pow]
  omega
 ·have:=fz_le (T:=2 ^ p) (by omega)
  omega
structure ExR (X:Int) (p k:Nat) (T S:Int):Prop where
 k1:1≤k
 fk:k + fz T≤p / 16 + 4
 sp:0≤X → 0≤T∧2 ^ p≤S
 sn:X≤0 → S≤2 ^ p∧S≤2 ^ p + T
 ta:T.natAbs≤2 ^ p
 sa:S.natAbs≤k * 2 ^ p
 tl:tm (k - 1) (dq X (-(p:Int))) - 3 * dq 1 (-(p:Int))≤dq T (-(p:Int))∧dq T (-(p:Int))≤tm (k - 1) (dq X (-(p:Int))) + 3 * dq 1 (-(p:Int))
 sl:esm k (dq X (-(p:Int))) - 3 * (k:Rat) * dq 1 (-(p:Int))≤dq S (-(p:Int))∧dq S (-(p:Int))≤esm k (dq X (-(p:Int))) + 3 * (k:Rat) * dq 1 (-(p:Int))
theorem dq_onep (p:Nat):dq (2 ^ p) (-(p:Int)) = 1:=by
 rw [dq_scale]
 exact two_cast p
theorem ExR.first (X:Int) (p:Nat):ExR X p 1 (2 ^ p) (2 ^ p):=by
 have e:((2:Int) ^ p).natAbs = 2 ^ p:=by rw [Int.natAbs_pow];rfl
 have hp:=pow2_pos p
 have hf:=fz_two p
 have hu:=dq_pos (-(p:Int))
 have e0:tm (1 - 1) (dq X (-(p:Int))) = 1:=rfl
 have e1:esm 1 (dq X (-(p:Int))) = 1:=by show (0:Rat) + 1 = 1;grind
 have e2:((1:Nat):Rat) = 1:=rfl
 refine ⟨by omega,by omega,fun _ => ⟨by omega,Int.le_refl _⟩,fun _ => ⟨Int.le_refl _,by omega⟩,by omega,by omega,?_,?_⟩
 ·rw [dq_onep,e0];grind
 ·rw [dq_onep,e1,e2];grind
theorem ExR.last {X:Int} {p k:Nat} {S:Int} (hX:X.natAbs * 2 ^ 32≤2 ^ p) (h:ExR X p k 0 S) (hk:2≤k) :
  LoE (dq S (-(p:Int)) - (3 * (k:Rat) + 3) * dq 1 (-(p:Int))) (dq X (-(p:Int)))∧UpE (dq X (-(p:Int))) (dq S (-(p:Int)) + (3 * (k:Rat) + 3) * dq 1 (-(p:Int))):=by
 obtain ⟨k1,fk,sp,sn,ta,sa,⟨t1,t2⟩,⟨s1,s2⟩⟩:=h
 have hu:=dq_pos (-(p:Int))
 rw [dq_zero] at t1 t2
 have hx:rab (dq X (-(p:Int)))≤1 / 8:=by
  have e:(((2:Nat) ^ p:Nat):Int) = 2 ^ p:=by simp
  have h1:-(2 ^ p)≤X * 8:=by rw [← e];omega
  have h2:X * 8≤2 ^ p:=by rw [← e];omega
  have g1:=(dq_le_iff _ _ (-(p:Int))).2 h1
  have g2:=(dq_le_iff _ _ (-(p:Int))).2 h2
  rw [dq_neg,dq_onep,dq_scale (X * 8),Rat.intCast_mul] at g1
  rw [dq_onep,dq_scale (X * 8),Rat.intCast_mul] at g2
  rw [dq_scale X]
  have e8:((8:Int):Rat) = 8:=rfl
  rw [e8] at g1 g2
  unfold rab
  split <;> grind
 obtain ⟨j,rfl⟩:∃ j,k = j + 1:=⟨k - 1,by omega⟩
 rw [show j + 1 - 1 = j by omega] at t1 t2
 have h0:=rab_nn (dq X (-(p:Int)))
 have b1:tm j (rab (dq X (-(p:Int))))≤3 * dq 1 (-(p:Int)):=by
  unfold rab
  split
  ·grind
  ·rw [tm_neg]
   rcases sgk_or j with e | e <;> rw [e] <;> grind
 have b2:=tm_mul j (rab (dq X (-(p:Int))))
 have b3:=tm_nn j h0
 have b4:=tm_nn (j + 1) h0
 have hj:=nat_nn j
 have b5:tm (j + 1) (rab (dq X (-(p:Int))))≤dq 1 (-(p:Int)):=by
  have q1:=Rat.mul_le_mul_of_nonneg_left hx b3
  have q2:=Rat.mul_le_mul_of_nonneg_left (show 1≤(j:Rat) + 1 by grind) b4
  grind
 refine ⟨(exp_lo j _).down (by grind),(exp_up j (by grind)).up (by grind)⟩
theorem rp_succ (b:Rat) (n:Nat):rp b (n + 1) = rp b n * b:=rfl
theorem rp_bern {u:Rat} (hu:0≤u) (n:Nat):1 + (n:Rat) * u≤rp (1 + u) n:=by
  induction n with
  | zero => show 1 + ((0:Nat):Rat) * u≤1;rw [show ((0:Nat):Rat) = 0 from rfl];grind
  | succ n ih =>
    have e:((n + 1:Nat):Rat) = (n:Rat) + 1:=by push_cast;rfl
    rw [rp_succ,e]
    have h1:=Rat.mul_le_mul_of_nonneg_right ih (show 0≤1 + u by grind)
    have h2:=Rat.mul_nonneg (nat_nn n) (rsq_nn u)
    grind
theorem rp_top {u:Rat} (hu:0≤u) (n:Nat) (h:(n:Rat) * u≤1):rp (1 + u) n * (1 - (n:Rat) * u)≤1:=by
  induction n with
  | zero => show (1:Rat) * (1 - ((0:Nat):Rat) * u)≤1;rw [show ((0:Nat):Rat) = 0 from rfl];grind
  | succ n ih =>
    have e:((n + 1:Nat):Rat) = (n:Rat) + 1:=by push_cast;rfl
    rw [rp_succ,e]
    rw [e] at h
    have h0:=Rat.mul_nonneg (nat_nn n) hu
    have h1:=ih (by grind)
    have h2:=Rat.mul_nonneg (nat_nn n) (rsq_nn u)
    have h3:=rsq_nn u
    have h4:0≤rp (1 + u) n:=rp_nn (by grind) n
    have h5:=Rat.mul_nonneg h4 (show 0≤(n:Rat) * (u * u) + u * u by grind)
    grind
theorem rp_small {u:Rat} (hu:0≤u) (n:Nat) (h:(n:Rat) * u≤1 / 2):rp (1 + u) n≤1 + 2 * ((n:Rat) * u):=by
 have h1:=rp_top hu n (by grind)
 have h0:=Rat.mul_nonneg (nat_nn n) hu
 generalize rp (1 + u) n = G at *
 generalize (n:Rat) * u = t at *
 refine le_of_mul (c:=1 - t) (by grind) ?_
 have h2:=Rat.mul_nonneg h0 (show 0≤1 - 2 * t by grind)
 grind
structure PwU (p n:Nat) (s:Int) (y:Rat):Prop where
 lo:∃ a,0 < a∧LoE a y∧dq s (-(p:Int))≤a * rp (1 + dq 1 (-(p:Int))) n
 up:∃ b,UpE y b∧b≤dq s (-(p:Int)) * rp (1 + dq 1 (-(p:Int))) n
 one:2 ^ p≤s
structure PwD (p n:Nat) (s:Int) (y:Rat):Prop where
 lo:LoE (dq s (-(p:Int)) - (rp (1 + dq 1 (-(p:Int))) n - 1)) y
 up:UpE y (dq s (-(p:Int)) + (rp (1 + dq 1 (-(p:Int))) n - 1))
 nn:0≤s
 one:s≤2 ^ p
def PwB (p n:Nat) (s:Int) (y:Rat):Prop:=(PwU p n s y∧0≤y) ∨ (PwD p n s y∧y≤0)
theorem PwB.top {p n:Nat} {s:Int} {y B:Rat} (h:PwB p n s y) (hB:UpE y B) (hB1:1≤B) (hn:(n:Rat) * dq 1 (-(p:Int))≤1 / 2):0≤s∧dq s (-(p:Int))≤2 * B:=by
 have hu:=dq_pos (-(p:Int))
 have hG:=rp_small (Rat.le_of_lt hu) n hn
 rcases h with ⟨h,hy⟩ | ⟨h,hy⟩
 ·obtain ⟨a,ha,l1,l2⟩:=h.lo
  have h1:=l1.le hB
  have hP:=pow2_pos p
  have h2:=h.one
  have q1:=Rat.mul_le_mul_of_nonneg_left (show rp (1 + dq 1 (-(p:Int))) n≤2 by grind) (Rat.le_of_lt ha)
  exact ⟨by omega,by grind⟩
 ·have h4:=(dq_le_iff _ _ (-(p:Int))).2 h.one
  rw [dq_onep] at h4
  exact ⟨h.nn,by grind⟩
theorem arg_near {a b x y u:Rat} (hu:0 < u) (hu2:u≤1 / 2) (h1:x≤y + u) (h2:y≤x + u) (la:LoE a x) (ub:UpE x b) (ha2:a≤2) (hb:b≤2):LoE (a - 2 * u) y∧UpE y (b + 4 * u):=by
 have g1:=exp_line (-u)
 have g2:=g1.neg (by grind)
 rw [Rat.neg_neg] at g2
 have g3:(1 + -u)⁻¹≤1 + 2 * u:=by
  refine le_of_mul (c:=1 + -u) (by grind) ?_
  rw [Rat.inv_mul_cancel _ (by grind)]
  have:=Rat.mul_nonneg (Rat.le_of_lt hu) (show 0≤1 - 2 * u by grind)
  grind
 have hbp:=ub.pos
 refine ⟨?_,((ub.add (g2.up g3)).mono h2).up ?_⟩
 ·by_cases h0:0 < a
  ·have w:=la.add g1 h0 (by grind)
   refine (w.mono (show x + -u≤y by grind) (Rat.mul_nonneg (Rat.le_of_lt h0) (by grind))).down ?_
   have:=Rat.mul_le_mul_of_nonneg_right ha2 (Rat.le_of_lt hu)
   grind
  ·exact (LoE.zero _).down (by grind)
 ·have:=Rat.mul_le_mul_of_nonneg_right hb (Rat.le_of_lt hu)
  grind
theorem PwB.first {p E:Nat} {S:Int} {y:Rat} (h1:LoE (dq S (-(p:Int)) - (E:Rat) * dq 1 (-(p:Int))) y) (h2:UpE y (dq S (-(p:Int)) + (E:Rat) * dq 1 (-(p:Int)))) (hE:(E:Rat) * dq 1 (-(p:Int))≤1 / 4)
  (hp:0≤y → 2 ^ p≤S) (hn:y≤0 → 0≤S∧S≤2 ^ p):PwB p (2 * E) S y:=by
 have hu:=dq_pos (-(p:Int))
 have hb:=rp_bern (Rat.le_of_lt hu) (2 * E)
 have e:((2 * E:Nat):Rat) * dq 1 (-(p:Int)) = 2 * ((E:Rat) * dq 1 (-(p:Int))):=by
  rw [Rat.natCast_mul,show ((2:Nat):Rat) = 2 from rfl]
  grind
 rw [e] at hb
 have ht:=Rat.mul_nonneg (nat_nn E) (Rat.le_of_lt hu)
 by_cases hy:0≤y
 ·have hS:=hp hy
  have h4:=(dq_le_iff _ _ (-(p:Int))).2 hS
  rw [dq_onep] at h4
  refine Or.inl ⟨⟨⟨_,?_,h1,?_⟩,⟨_,h2,?_⟩,hS⟩,hy⟩
  ·grind
  ·generalize rp (1 + dq 1 (-(p:Int))) (2 * E) = G at *
   generalize (E:Rat) * dq 1 (-(p:Int)) = t at *
   generalize dq S (-(p:Int)) = s1 at *
   have q1:=Rat.mul_le_mul_of_nonneg_left hb (show 0≤s1 - t by grind)
   have q2:=Rat.mul_nonneg ht (show 0≤2 * (s1 - t) - 1 by grind)
   grind
  ·generalize rp (1 + dq 1 (-(p:Int))) (2 * E) = G at *
   generalize (E:Rat) * dq 1 (-(p:Int)) = t at *
   generalize dq S (-(p:Int)) = s1 at *
   have q1:=Rat.mul_le_mul_of_nonneg_left hb (show 0≤s1 by grind)
   have q2:=Rat.mul_le_mul_of_nonneg_right h4 ht
   grind
 ·obtain ⟨n1,n2⟩:=hn (by grind)
  exact Or.inr ⟨⟨h1.down (by grind),h2.up (by grind),n1,n2⟩,by grind⟩

theorem dq_add1 (a b:Int):dq 1 (a + b) = dq 1 a * dq 1 b:=by
 have:=dq_mul 1 a 1 b
 rwa [Int.one_mul] at this
theorem one_dg (n:Nat):(1:Rat)≤dq 1 (n:Int):=by
  induction n with
  | zero => exact Rat.le_refl
  | succ n ih =>
    rw [show ((n + 1:Nat):Int) = (n:Int) + 1 by omega,dq_add1]
    have e:dq 1 1 = 2:=rfl
    rw [e]
    grind
structure PwH (m e:Int) (w h p dg:Nat):Prop where
 ep:p = w + 32 + h + dg
 up:UpE (dq m e) (dq 1 (dg:Int))
 lo:-dq 1 ((h:Int) - 64)≤dq m e
 hi:dq m e≤dq 1 ((h:Int) - 64)
 p7:p≤700
theorem dq_anti {a b:Int} (h:a≤b):dq 1 a≤dq 1 b:=by
 obtain ⟨n,rfl⟩:∃ n:Nat,b = a + (n:Int):=⟨(b - a).toNat,by omega⟩
 rw [dq_add1]
 have:=Rat.mul_le_mul_of_nonneg_left (one_dg n) (Rat.le_of_lt (dq_pos a))
 grind
def nrX (m e:Int) (h p:Nat):Int:=(cutQ (dq m (e + -(h:Int))) ((p:Int) + 1) + 1) / 2
theorem dq_hlv (m e h:Int):dq m (e + -h) = dq m e * dq 1 (-h):=by
 have:=dq_mul m e 1 (-h)
 rwa [Int.mul_one] at this
theorem PwH.arg {m e:Int} {w h p dg:Nat} (H:PwH m e w h p dg):(nrX m e h p).natAbs * 2 ^ 32≤2 ^ p∧(0≤dq m e → 0≤nrX m e h p)∧(dq m e≤0 → nrX m e h p≤0) ∧
  dq (nrX m e h p) (-(p:Int))≤dq m (e + -(h:Int)) + dq 1 (-(p:Int))∧dq m (e + -(h:Int))≤dq (nrX m e h p) (-(p:Int)) + dq 1 (-(p:Int)):=by
 have n1:=near_lo (dq m (e + -(h:Int))) (p:Int)
 have n2:=near_hi (dq m (e + -(h:Int))) (p:Int)
 have hh:=dq_half (p:Int)
 have hu:=dq_pos (-(p:Int))
 have hu2:=dq_pos (-((p:Int) + 1))
 have ep:=H.ep
 have hq:=dq_hlv m e (h:Int)
 have h64:dq 1 ((h:Int) - 64) * dq 1 (-(h:Int)) = dq 1 (-64):=by rw [← dq_add1];congr 1;omega
 have hhp:=dq_pos (-(h:Int))
 have q1:=Rat.mul_le_mul_of_nonneg_right H.hi (Rat.le_of_lt hhp)
 have q2:=Rat.mul_le_mul_of_nonneg_right H.lo (Rat.le_of_lt hhp)
 rw [h64,← hq] at q1
 rw [Rat.neg_mul,h64,← hq] at q2
 have hX:(cutQ (dq m (e + -(h:Int))) ((p:Int) + 1) + 1) / 2 = nrX m e h p:=rfl
 rw [hX] at n1 n2
 have c32:dq 1 (-(p:Int))≤dq 1 (-32):=dq_anti (by omega)
 have v32:dq 1 (-32) = 1 / 4294967296:=by decide +kernel
 have v64:dq 1 (-64) = 1 / 18446744073709551616:=by decide +kernel
 refine ⟨?_,fun h0 => ?_,fun h0 => ?_,by grind,by grind⟩
 ·have e32:(2:Nat) ^ 32 = 4294967296:=by decide
  have eP:(((2:Nat) ^ p:Nat):Int) = 2 ^ p:=by simp
  have k1:nrX m e h p * 4294967296≤2 ^ p:=by
   refine (dq_le_iff _ _ (-(p:Int))).1 ?_
   rw [dq_onep,dq_scale (nrX m e h p * 4294967296),Rat.intCast_mul]
   rw [dq_scale (nrX m e h p)] at n1
   have e9:((4294967296:Int):Rat) = 4294967296:=by decide +kernel
   rw [e9]
   rw [v32] at c32
   rw [v64] at q1 q2
   clear v32 v64 h64 hX e9 eP e32 hq
   generalize ((nrX m e h p:Int):Rat) = X at *
   generalize dq 1 (-(p:Int)) = u at *
   generalize dq 1 (-((p:Int) + 1)) = u2 at *
   generalize dq m (e + -(h:Int)) = q at *
   clear H ep
   grind
  have k2:-(2 ^ p)≤nrX m e h p * 4294967296:=by
   refine (dq_le_iff _ _ (-(p:Int))).1 ?_
   rw [dq_neg,dq_onep,dq_scale (nrX m e h p * 4294967296),Rat.intCast_mul]
   rw [dq_scale (nrX m e h p)] at n2
   have e9:((4294967296:Int):Rat) = 4294967296:=by decide +kernel
   rw [e9]
   rw [v32] at c32
   rw [v64] at q1 q2
   clear v32 v64 h64 hX e9 eP e32 hq
   generalize ((nrX m e h p:Int):Rat) = X at *
   generalize dq 1 (-(p:Int)) = u at *
   generalize dq 1 (-((p:Int) + 1)) = u2 at *
   generalize dq m (e + -(h:Int)) = q at *
   clear H ep
   grind
  rw [e32]
  rw [← eP] at k1 k2
  omega
 ·unfold nrX
  have h1:0≤dq m (e + -(h:Int)):=by rw [hq];exact Rat.mul_nonneg h0 (Rat.le_of_lt hhp)
  have:0≤cutQ (dq m (e + -(h:Int))) ((p:Int) + 1):=by
   unfold cutQ
   refine Rat.le_floor_iff.2 ?_
   exact Rat.mul_nonneg h1 (Rat.le_of_lt (dq_pos _))
  omega
 ·unfold nrX
  have h1:dq m (e + -(h:Int))≤0:=by
   rw [hq]
   have:=Rat.mul_nonneg (show 0≤-(dq m e) by grind) (Rat.le_of_lt hhp)
   grind
  have:cutQ (dq m (e + -(h:Int))) ((p:Int) + 1)≤0:=by
   have h2:=cut_lo (dq m (e + -(h:Int))) ((p:Int) + 1)
   have h3:=(dq_le_iff (cutQ (dq m (e + -(h:Int))) ((p:Int) + 1)) 0 (-((p:Int) + 1))).1 (by rw [dq_zero];exact Rat.le_trans h2 h1)
   exact h3
  omega
def PwL (m e:Int) (h p i:Nat) (s:Int):Prop:=i≤h∧∃ n0,n0≤1000∧PwB p ((n0 + 1) * 2 ^ i - 1) s ((((2:Nat) ^ i:Nat):Rat) * dq m (e + -(h:Int)))
theorem first_num {u x s k:Rat} (hu:0 < u) (c32:u≤1 / 4294967296) (hk0:0≤k) (hk:k≤60) (hx:-(1 / 8)≤x) (b1:1 + x≤s + (3 * k + 3) * u) (b2:s - (3 * k + 3) * u≤8 / 7) :
  u≤1 / 2∧s - (3 * k + 3) * u≤2∧s + (3 * k + 3) * u≤2∧(3 * k + 7) * u≤1 / 4∧0≤s∧s - (3 * k + 7) * u≤s - (3 * k + 3) * u - 2 * u∧s + (3 * k + 3) * u + 4 * u≤s + (3 * k + 7) * u:=by
 have h1:(3 * k + 7) * u≤187 * u:=Rat.mul_le_mul_of_nonneg_right (by grind) (Rat.le_of_lt hu)
 have h2:0≤(3 * k + 3) * u:=Rat.mul_nonneg (by grind) (Rat.le_of_lt hu)
 refine ⟨by grind,by grind,by grind,by grind,by grind,by grind,by grind⟩
theorem PwL.first {m e:Int} {w h p dg k:Nat} {S:Int} (H:PwH m e w h p dg) (R:ExR (nrX m e h p) p k 0 S):PwL m e h p 0 S:=by
 obtain ⟨x1,x2,x3,x4,x5⟩:=H.arg
 have hk2:2≤k:=by
  refine Nat.not_lt.1 fun hlt => ?_
  have h1:=R.k1
  obtain rfl:k = 1:=by omega
  have h2:=R.tl.1
  rw [show tm (1 - 1) (dq (nrX m e h p) (-(p:Int))) = 1 from rfl,dq_zero] at h2
  have ep:=H.ep
  have c32:dq 1 (-(p:Int))≤dq 1 (-32):=dq_anti (by omega)
  have v32:dq 1 (-32) = 1 / 4294967296:=by decide +kernel
  rw [v32] at c32
  clear x1 x2 x3 x4 x5 R H ep hlt h1 v32
  generalize dq 1 (-(p:Int)) = u at *
  grind
 obtain ⟨l1,l2⟩:=R.last x1 hk2
 have fk:=R.fk
 have p7:=H.p7
 have ep:=H.ep
 have hkb:k≤60:=by omega
 have c32:dq 1 (-(p:Int))≤dq 1 (-32):=dq_anti (by omega)
 have v32:dq 1 (-32) = 1 / 4294967296:=by decide +kernel
 have hu:=dq_pos (-(p:Int))
 have hkr:(k:Rat)≤60:=by exact_mod_cast hkb
 have hk0:=nat_nn k
 obtain ⟨x,hx⟩:=nm9 (dq (nrX m e h p) (-(p:Int)))
 have hxb:-(1 / 8)≤x∧x≤1 / 8:=by
  have eP:(((2:Nat) ^ p:Nat):Int) = 2 ^ p:=by simp
  have h1:-(2 ^ p)≤nrX m e h p * 8:=by rw [← eP];omega
  have h2:nrX m e h p * 8≤2 ^ p:=by rw [← eP];omega
  have g1:=(dq_le_iff _ _ (-(p:Int))).2 h1
  have g2:=(dq_le_iff _ _ (-(p:Int))).2 h2
  rw [dq_neg,dq_onep,dq_scale (nrX m e h p * 8),Rat.intCast_mul] at g1
  rw [dq_onep,dq_scale (nrX m e h p * 8),Rat.intCast_mul] at g2
  rw [dq_scale (nrX m e h p)] at hx
  have e8:((8:Int):Rat) = 8:=rfl
  rw [e8] at g1 g2
  clear x1 x2 x3 x4 x5 R H l1 l2 c32 v32 hu hkr hk0
  generalize ((nrX m e h p:Int):Rat) = X at *
  generalize dq 1 (-(p:Int)) = u at *
  constructor <;> grind
 rw [hx] at l1 l2 x4 x5
 -- the sum lies between 1/2 and 2
 have b1:=(exp_line x).le l2
 have b2:dq S (-(p:Int)) - (3 * (k:Rat) + 3) * dq 1 (-(p:Int))≤8 / 7:=by
  obtain ⟨z1,z2⟩:=hxb
  have p1:0 < 1 + -x:=by clear x1 x2 x3 x4 x5 R H l1 l2 c32 v32 hu hkr hk0 hx b1;grind
  have g:=(exp_line (-x)).neg p1
  rw [Rat.neg_neg] at g
  refine Rat.le_trans (l1.le g) ?_
  refine le_of_mul (c:=1 + -x) p1 ?_
  have p2:1 + -x ≠ 0:=by clear x1 x2 x3 x4 x5 R H l1 l2 c32 v32 hu hkr hk0 hx b1 g;grind
  rw [Rat.inv_mul_cancel _ p2]
  clear x1 x2 x3 x4 x5 R H l1 l2 c32 v32 hu hkr hk0 hx b1 g p2
  grind
 rw [v32] at c32
 obtain ⟨f1,f2,f3,f4,f5,f6,f7⟩:=first_num hu c32 hk0 hkr hxb.1 b1 b2
 obtain ⟨y1,y2⟩:=arg_near hu f1 x4 x5 l1 l2 f2 f3
 have e7:((3 * k + 7:Nat):Rat) = 3 * (k:Rat) + 7:=by push_cast;rfl
 have hy:=dq_hlv m e (h:Int)
 have hhp:=dq_pos (-(h:Int))
 refine ⟨by omega,2 * (3 * k + 7),by omega,?_⟩
 rw [show (2 * (3 * k + 7) + 1) * 2 ^ 0 - 1 = 2 * (3 * k + 7) by rw [Nat.pow_zero];omega,show (((2:Nat) ^ 0:Nat):Rat) * dq m (e + -(h:Int)) = dq m (e + -(h:Int)) from by rw [Nat.pow_zero];exact Rat.one_mul _]
 refine PwB.first (y1.down ?_) (y2.up ?_) ?_ (fun h0 => ?_) (fun h0 => ?_)
 ·rw [e7];exact f6
 ·rw [e7];exact f7
 ·rw [e7];exact f4
 ·refine (R.sp (x2 ?_)).2
  rw [hy] at h0
  clear x1 x2 x3 x4 x5 R H l1 l2 c32 v32 hu hkr hk0 hx b1 b2 f1 f2 f3 f4 f5 f6 f7 y1 y2 e7 hxb
  generalize dq m e = D at *
  generalize dq 1 (-(h:Int)) = H2 at *
  refine Rat.not_lt.1 fun hlt => ?_
  have:=Rat.mul_pos (show 0 < -D by grind) hhp
  grind
 ·have hd:dq m e≤0:=by
   rw [hy] at h0
   clear x1 x2 x3 x4 x5 R H l1 l2 c32 v32 hu hkr hk0 hx b1 b2 f1 f2 f3 f4 f5 f6 f7 y1 y2 e7 hxb
   generalize dq m e = D at *
   generalize dq 1 (-(h:Int)) = H2 at *
   refine Rat.not_lt.1 fun hlt => ?_
   have:=Rat.mul_pos hlt hhp
   grind
  refine ⟨?_,(R.sn (x3 hd)).1⟩
  refine (dq_le_iff 0 S (-(p:Int))).1 ?_
  rw [dq_zero]
  exact f5
theorem nat_dq (n:Nat):(((2:Nat) ^ n:Nat):Rat) = dq 1 (n:Int):=by
  induction n with
  | zero => rfl
  | succ n ih =>
    rw [Nat.pow_succ,Rat.natCast_mul,ih,show ((n + 1:Nat):Int) = (n:Int) + 1 by omega,dq_add1]
    rfl
theorem pw_n {n0 i h p:Nat} (h0:n0≤1000) (hi:i≤h):(((n0 + 1) * 2 ^ i - 1:Nat):Rat) * dq 1 (-(p:Int))≤dq 1 (10 + (h:Int) - (p:Int)):=by
 have h1:(n0 + 1) * 2 ^ i - 1≤2 ^ (10 + h):=by
  have a1:(n0 + 1) * 2 ^ i≤1024 * 2 ^ h:=Nat.mul_le_mul (by omega) (Nat.pow_le_pow_right (by omega) hi)
  have e10:(2:Nat) ^ 10 = 1024:=by decide
  rw [Nat.pow_add,e10]
  omega
 have h2:(((n0 + 1) * 2 ^ i - 1:Nat):Rat)≤(((2:Nat) ^ (10 + h):Nat):Rat):=by exact_mod_cast h1
 rw [nat_dq] at h2
 have h3:=Rat.mul_le_mul_of_nonneg_right h2 (Rat.le_of_lt (dq_pos (-(p:Int))))
 rw [← dq_add1,show ((10 + h:Nat):Int) + -(p:Int) = 10 + (h:Int) - (p:Int) by omega] at h3
 exact h3
theorem PwL.mid {m e:Int} {w h p dg i:Nat} (H:PwH m e w h p dg) (hi:i≤h):UpE ((((2:Nat) ^ i:Nat):Rat) * dq m (e + -(h:Int))) (dq 1 (dg:Int)):=by
 have hq:=dq_hlv m e (h:Int)
 have hhp:=dq_pos (-(h:Int))
 have e1:(((2:Nat) ^ h:Nat):Rat) * dq m (e + -(h:Int)) = dq m e:=by
  rw [hq,nat_dq]
  have:=dq_unit (h:Int)
  grind
 by_cases h0:0≤dq m (e + -(h:Int))
 ·refine H.up.mono ?_
  rw [← e1]
  refine Rat.mul_le_mul_of_nonneg_right ?_ h0
  exact_mod_cast Nat.pow_le_pow_right (n:=2) (by omega) hi
 ·refine (exp_0.2.mono ?_).up (one_dg dg)
  have:=Rat.mul_nonneg (nat_nn (2 ^ i)) (show 0≤-(dq m (e + -(h:Int))) by grind)
  grind
theorem PwL.size {m e:Int} {w h p dg i:Nat} {s:Int} (H:PwH m e w h p dg) (L:PwL m e h p i s):AbP s (p + dg + 1):=by
 obtain ⟨hi,n0,h0,b⟩:=L
 have ep:=H.ep
 have hn:=pw_n (p:=p) h0 hi
 have hc:dq 1 (10 + (h:Int) - (p:Int))≤dq 1 (-1):=dq_anti (by omega)
 have v1:dq 1 (-1) = 1 / 2:=by decide +kernel
 obtain ⟨t1,t2⟩:=b.top (PwL.mid H hi) (one_dg dg) (by grind)
 have e2:2 * dq 1 (dg:Int) = dq (2 ^ (p + dg + 1)) (-(p:Int)):=by
  have:dq (2 ^ (p + dg + 1)) (-(p:Int)) = dq 1 ((dg:Int) + 1):=by
   refine dq_eq (F := -(p:Int)) ?_ (by omega) (by omega)
   rw [show (-(p:Int) - -(p:Int)).toNat = 0 by omega,show ((dg:Int) + 1 - -(p:Int)).toNat = p + dg + 1 by omega]
   simp
  rw [this,dq_add1]
  have v2:dq 1 1 = 2:=rfl
  rw [v2]
  grind
 rw [e2] at t2
 have t3:=(dq_le_iff _ _ _).1 t2
 unfold AbP
 have eP:(((2:Nat) ^ (p + dg + 1):Nat):Int) = 2 ^ (p + dg + 1):=by simp
 rw [← eP] at t3
 omega
theorem big_addN {m e n k s t:Int} {j:Nat} (he:-(j:Int)≤e) (hk:-(j:Int)≤k) (hs:dq m e = dq s (-(j:Int))) (ht:dq n k = dq t (-(j:Int))) (hz:AbP (s + t) 60100) (hmin:min e k≤4000) (hj:j≤5000) :
  mkR (addS m e n k) (min e k) = 0∧dq (mkM (addS m e n k) (min e k)) (mkE (addS m e n k) (min e k)) = dq (s + t) (-(j:Int))∧zl (mkM (addS m e n k) (min e k))≤1900∧(-5000≤mkE (addS m e n k) (min e k)∧mkE (addS m e n k) (min e k)≤70000):=by
 have h1:=dq_add m e n k
 rw [hs,ht,← dq_addI] at h1
 obtain ⟨V,hV⟩:=nm9 (addS m e n k)
 obtain ⟨r,hr⟩:∃ r:Nat,min e k + (j:Int) = (r:Int):=⟨(min e k + (j:Int)).toNat,by omega⟩
 rw [hV] at h1 ⊢
 have h2:dq V (min e k) = dq (V * 2 ^ r) (-(j:Int)):=by
  refine dq_eq (F := -(j:Int)) ?_ (by omega) (by omega)
  rw [show (min e k - -(j:Int)).toNat = r by omega,show (-(j:Int) - -(j:Int)).toNat = 0 by omega]
  simp
 have h3:V * 2 ^ r = s + t:=dq_inj (h2.symm.trans h1)
 have hV2:AbP V 60100:=by
  unfold AbP at *
  rw [← h3,abs_shl] at hz
  exact Nat.le_trans (Nat.le_mul_of_pos_right _ (Nat.pow_pos (by omega))) hz
 have zv:=hV2.zl
 have hr0:mkR V (min e k) = 0:=mk_fits2 (by omega) (by omega) (by omega)
 have z1:=zl_mk V (min e k)
 have z2:=mkE_at hr0 zv
 exact ⟨hr0,by rw [dq_mk hr0,h1],by omega,by omega⟩
theorem npBN {T:Int} {j:Nat} (h:AbP T 60000) (hj:j≤5000) :
  mkR T (-(j:Int)) = 0∧zl (mkM T (-(j:Int)))≤1876∧(-(j:Int)≤mkE T (-(j:Int))∧mkE T (-(j:Int))≤60100)∧dq (mkM T (-(j:Int))) (mkE T (-(j:Int))) = dq T (-(j:Int)):=by
 have hz:=h.zl
 have hr:mkR T (-(j:Int)) = 0:=mk_fits2 (by omega) (by omega) (by omega)
 have z1:=zl_mk T (-(j:Int))
 have z2:=mkE_at hr (k:=1876) (by omega)
 exact ⟨hr,by omega,by omega,dq_mk hr⟩
theorem unit2N (k:Nat):dq 1 (-((k:Int) - 1)) = 2 * dq 1 (-(k:Int)):=by
 rw [show -((k:Int) - 1) = 1 + -(k:Int) by omega,dq_add1]
 have v:dq 1 1 = 2:=by decide +kernel
 rw [v]

theorem near_gen (k:Nat) (a b a1 b1 a2 b2:Int) (vx vl vh:Value) (w:World) (hk:k≤220) (hle:a≤b) (az:AbP a (k + 302)) (bz:AbP b (k + 302)) (l3:AbP a1 60000) (l4:AbP b1 60000) (h3:AbP a2 60000) (h4:AbP b2 60000) (c1:dq a (-(k:Int))≤dq b1 (-((k + 16:Nat):Int))) (c2:dq a1 (-((k + 16:Nat):Int))≤dq a (-(k:Int)) + 2 * dq 1 (-(k:Int))) (c3:dq a2 (-((k + 16:Nat):Int))≤dq b (-(k:Int))) (c4:dq b (-(k:Int)) - 2 * dq 1 (-(k:Int))≤dq b2 (-((k + 16:Nat):Int))) (hx:IsI w vx (mkM a (-(k:Int))) (mkE a (-(k:Int))) (mkM b (-(k:Int))) (mkE b (-(k:Int)))) (hl:IsI w vl (mkM a1 (-((k + 16:Nat):Int))) (mkE a1 (-((k + 16:Nat):Int))) (mkM b1 (-((k + 16:Nat):Int))) (mkE b1 (-((k + 16:Nat):Int)))) (hh:IsI w vh (mkM a2 (-((k + 16:Nat):Int))) (mkE a2 (-((k + 16:Nat):Int))) (mkM b2 (-((k + 16:Nat):Int))) (mkE b2 (-((k + 16:Nat):Int)))) :
  Calls Tryz.prog 17 #[vx,vl,vh,.int .i64 (k:Int)] w (RetB w true):=by
 obtain ⟨j,hj⟩:=nm9 (k + 16)
 rw [hj] at c1 c2 c3 c4 hl hh
 obtain ⟨A1,A2,A3,A4,A5⟩:=np az (by omega) (show k≤3000 by omega)
 obtain ⟨B1,B2,B3,B4,B5⟩:=np bz (by omega) (show k≤3000 by omega)
 obtain ⟨C1,C2,C3,C4⟩:=npBN l3 (show j≤5000 by omega)
 obtain ⟨D1,D2,D3,D4⟩:=npBN l4 (show j≤5000 by omega)
 obtain ⟨E1,E2,E3,E4⟩:=npBN h3 (show j≤5000 by omega)
 obtain ⟨F1,F2,F3,F4⟩:=npBN h4 (show j≤5000 by omega)
 have hpk:permB (k:Int) = true:=by
  unfold permB
  rw [decide_eq_true (show (-2048:Int)≤(k:Int) by omega),decide_eq_true (show (k:Int)≤8192 by omega)]
  rfl
 have hpj:permB ((k:Int) - 1) = true:=by
  unfold permB
  rw [decide_eq_true (show (-2048:Int)≤(k:Int) - 1 by omega),decide_eq_true (show (k:Int) - 1≤8192 by omega)]
  rfl
 obtain ⟨y1,y2,y3⟩:=g_yes hpj 1
 have z11:zl 1≤1:=len_le1 (show 1 < 4294967296 by omega)
 have hr1:mkR 1 (-((k:Int) - 1)) = 0:=mk_fits2 (Nat.le_trans z11 (by omega)) (by omega) (by omega)
 have zu:=Nat.le_trans (zl_mk 1 (-((k:Int) - 1))) z11
 have eu:=mkE_at hr1 z11
 have qu:=dq_mk hr1
 have eu1:dq 1 (-((k:Int) - 1)) = dq 131072 (-(j:Int)):=by
  refine dq_eq (F := -(j:Int)) ?_ (by omega) (by omega)
  rw [show (-((k:Int) - 1) - -(j:Int)).toNat = 17 by omega,show (-(j:Int) - -(j:Int)).toNat = 0 by omega]
  decide
 have eu2:dq (-(mkM 1 (-((k:Int) - 1)))) (mkE 1 (-((k:Int) - 1))) = dq (-131072) (-(j:Int)):=by
  rw [dq_neg,qu,eu1,← dq_neg]
 have eu3:-(j:Int)≤mkE 1 (-((k:Int) - 1))∧mkE 1 (-((k:Int) - 1))≤100:=by rcases eu with e | e <;> omega
 have p17:AbP 131072 60000:=AbP.up (j:=17) (by unfold AbP;decide) (by omega)
 obtain ⟨S1,S2,S3,S4⟩:=big_addN (m:=mkM a1 (-(j:Int))) (e:=mkE a1 (-(j:Int))) C3.1 eu3.1 C4 eu2 ((l3.add p17.neg).up (by omega)) (by omega) (show j≤5000 by omega)
 obtain ⟨T1,T2,T3,T4⟩:=big_addN (m:=mkM b2 (-(j:Int))) (e:=mkE b2 (-(j:Int))) F3.1 eu3.1 F4 (qu.trans eu1) ((h4.add p17).up (by omega)) (by omega) (show j≤5000 by omega)
 have hu2:dq 131072 (-(j:Int)) = 2 * dq 1 (-(k:Int)):=eu1.symm.trans (unit2N k)
 have w1:IntKind.i64.wrap ((k:Int) - 1) = (k:Int) - 1:=by rw [IntKind.wrap_i64];omega
 refine s13near_any (mkM a (-(k:Int))) (mkE a (-(k:Int))) (mkM b (-(k:Int))) (mkE b (-(k:Int))) (mkM a1 (-(j:Int))) (mkE a1 (-(j:Int))) (mkM b1 (-(j:Int))) (mkE b1 (-(j:Int))) (mkM a2 (-(j:Int))) (mkE a2 (-(j:Int))) (mkM b2 (-(j:Int))) (mkE b2 (-(j:Int))) (k:Int) (mkM 1 (-((k:Int) - 1))) (mkE 1 (-((k:Int) - 1))) 0 (mkM (addS (mkM a1 (-(j:Int))) (mkE a1 (-(j:Int))) (-(mkM 1 (-((k:Int) - 1)))) (mkE 1 (-((k:Int) - 1)))) (min (mkE a1 (-(j:Int))) (mkE 1 (-((k:Int) - 1))))) (mkE (addS (mkM a1 (-(j:Int))) (mkE a1 (-(j:Int))) (-(mkM 1 (-((k:Int) - 1)))) (mkE 1 (-((k:Int) - 1)))) (min (mkE a1 (-(j:Int))) (mkE 1 (-((k:Int) - 1))))) (mkM (addS (mkM b2 (-(j:Int))) (mkE b2 (-(j:Int))) (mkM 1 (-((k:Int) - 1))) (mkE 1 (-((k:Int) - 1)))) (min (mkE b2 (-(j:Int))) (mkE 1 (-((k:Int) - 1))))) (mkE (addS (mkM b2 (-(j:Int))) (mkE b2 (-(j:Int))) (mkM 1 (-((k:Int) - 1))) (mkE 1 (-((k:Int) - 1)))) (min (mkE b2 (-(j:Int))) (mkE 1 (-((k:Int) - 1)))))
  _ _ _ _ vx vl vh w hx hl hh w1 ?_ ?_ ?_ ?_ ?_ ?_ (fun v u W h1 h2 => rcmp8_any _ _ _ _ v u W h1 h2 (by omega) (by omega) (by omega) (by omega)) (fun v u W h1 h2 => rcmp8_any _ _ _ _ v u W h1 h2 (by omega) (by omega) (by omega) (by omega)) (fun v u W h1 h2 => rcmp8_any _ _ _ _ v u W h1 h2 (by omega) (by omega) (by omega) (by omega)) (fun v u W h1 h2 => rcmp8_any _ _ _ _ v u W h1 h2 (by omega) (by omega) (by omega) (by omega)) ?_ ?_ ?_ ?_
 ·intro v W h
  have s:=r10valid_any _ _ _ _ v W h (by omega) (by omega) (by omega) (by omega) A4 B4
  rwa [decide_eq_true (show dcm (mkM a (-(k:Int))) (mkE a (-(k:Int))) (mkM b (-(k:Int))) (mkE b (-(k:Int)))≤0 from (dcm_le _ _ _ _).2 (by rw [A5,B5];exact (dq_le_iff _ _ _).2 hle))] at s
 ·intro v W h
  have s:=ron9_any _ _ (k:Int) v W h (by omega) (by omega)
  unfold onB at s
  rwa [hpk,decide_eq_true A3.1,Bool.or_true,Bool.and_true] at s
 ·intro v W h
  have s:=ron9_any _ _ (k:Int) v W h (by omega) (by omega)
  unfold onB at s
  rwa [hpk,decide_eq_true B3.1,Bool.or_true,Bool.and_true] at s
 ·intro W
  have s:=runit9_any ((k:Int) - 1) W (by omega) (by omega)
  rwa [y1,y2,y3,hr1] at s
 ·intro v u W h k9
  have s:=rsub8_any _ _ _ _ v u W h k9 (by omega) (by omega) (by omega) (by omega)
  rwa [S1] at s
 ·intro v u W h k9
  have s:=radd8_any _ _ _ _ v u W h k9 (by omega) (by omega) (by omega) (by omega)
  rwa [T1] at s
 ·exact (dcm_le _ _ _ _).2 (by rw [A5,D4];exact c1)
 ·refine (dcm_le _ _ _ _).2 ?_
  rw [S2,A5,dq_addI,dq_neg,hu2]
  generalize dq a (-(k:Int)) = p at *
  generalize dq 1 (-(k:Int)) = u at *
  generalize dq a1 (-(j:Int)) = q at *
  clear hl hh hx S1 S2 T1 T2
  grind
 ·exact (dcm_le _ _ _ _).2 (by rw [B5,E4];exact c3)
 ·refine (dcm_le _ _ _ _).2 ?_
  rw [T2,B5,dq_addI,hu2]
  generalize dq b (-(k:Int)) = p at *
  generalize dq 1 (-(k:Int)) = u at *
  generalize dq b2 (-(j:Int)) = q at *
  clear hl hh hx S1 S2 T1 T2
  grind
def art:Nat → Rat → Rat
 | 0,_ => 0
 | n + 1,z => art n z + rp z (2 * n + 1) / (((2 * n:Nat):Rat) + 1)
def gs:Nat → Rat → Rat
 | 0,_ => 0
 | n + 1,z => gs n z + rp z (2 * n)
theorem rp_le {t s:Rat} (ht:0≤t) (h:t≤s) (j:Nat):rp t j≤rp s j:=by
 induction j with
 | zero => exact Rat.le_refl
 | succ j ih => exact rmul_le ih h ht (rp_nn (Rat.le_trans ht h) j)
theorem rp_diff {t h:Rat} (ht:0≤t) (hh:0≤h):∀ m:Nat,h * ((m:Rat) + 1) * rp t m≤rp (t + h) (m + 1) - rp t (m + 1)∧rp (t + h) (m + 1) - rp t (m + 1)≤h * ((m:Rat) + 1) * rp (t + h) m
  | 0 => by
    show h * (((0:Nat):Rat) + 1) * 1≤1 * (t + h) - 1 * t∧1 * (t + h) - 1 * t≤h * (((0:Nat):Rat) + 1) * 1
    rw [show ((0:Nat):Rat) = 0 from rfl]
    constructor <;> grind
  | m + 1 => by
    obtain ⟨a,b⟩:=rp_diff ht hh m
    have hs:0≤t + h:=by grind
    have l:=rp_le ht (show t≤t + h by grind) (m + 1)
    have n1:=rp_nn ht m
    have n2:=rp_nn ht (m + 1)
    have n3:=nat_nn m
    have e:((m + 1:Nat):Rat) = (m:Rat) + 1:=by push_cast;rfl
    have s1:∀ x:Rat,rp x (m + 1 + 1) = rp x (m + 1) * x:=fun _ => rfl
    have s2:∀ x:Rat,rp x (m + 1) = rp x m * x:=fun _ => rfl
    have d0:0≤rp (t + h) (m + 1) - rp t (m + 1):=by grind
    have p1:=Rat.mul_le_mul_of_nonneg_right b hs
    have p2:=Rat.mul_le_mul_of_nonneg_right a ht
    have p3:=Rat.mul_nonneg d0 hh
    have p4:=Rat.mul_le_mul_of_nonneg_left l hh
    rw [s1,s1,e]
    have q1:=s2 (t + h)
    have q2:=s2 t
    generalize rp (t + h) (m + 1) = S at *
    generalize rp t (m + 1) = T at *
    generalize rp (t + h) m = S' at *
    generalize rp t m = T' at *
    generalize (m:Rat) = k at *
    constructor
    · have:h * (k + 1) * T' * t = h * (k + 1) * T:=by rw [q2];grind
      grind
    · have:h * (k + 1) * S' * (t + h) = h * (k + 1) * S:=by rw [q1];grind
      grind
theorem div_le9 {a b c:Rat} (hc:0 < c) (h:a≤b * c):a / c≤b:=by
 refine le_of_mul hc ?_
 rw [Rat.div_mul_cancel (Rat.ne_of_gt hc)]
 exact h
theorem le_div9 {a b c:Rat} (hc:0 < c) (h:a * c≤b):a≤b / c:=by
 refine le_of_mul hc ?_
 rw [Rat.div_mul_cancel (Rat.ne_of_gt hc)]
 exact h
theorem gs_geo (n:Nat) (z:Rat):gs n z * (1 - z * z) = 1 - rp z (2 * n):=by
  induction n with
  | zero =>
    show 0 * (1 - z * z) = 1 - 1
    grind
  | succ n ih =>
    show (gs n z + rp z (2 * n)) * (1 - z * z) = 1 - rp z (2 * n) * z * z
    grind
def kd (d:Rat):Rat:=(d - d⁻¹) / 2
theorem kd_eq {d:Rat} (h:0 < d):kd d * (2 * d) = d * d - 1:=by
 have:=Rat.inv_mul_cancel d (Rat.ne_of_gt h)
 unfold kd
 generalize d⁻¹ = i at *
 grind
theorem lt_of_mul9 {a b c:Rat} (hc:0 < c) (h:a * c < b * c):a < b:=by
 by_cases h2:a < b
 ·exact h2
 ·have:=Rat.mul_le_mul_of_nonneg_right (show b≤a by grind) (Rat.le_of_lt hc)
  grind
theorem kd_lt {d e:Rat} (hd:0 < d) (h:d < e):kd d < kd e:=by
 have he:0 < e:=by grind
 have h1:=kd_eq hd
 have h2:=kd_eq he
 have p:0 < 2 * d * e:=by have:=Rat.mul_pos hd he;grind
 refine lt_of_mul9 p ?_
 have e1:kd d * (2 * d * e) = (d * d - 1) * e:=by grind
 have e2:kd e * (2 * d * e) = (e * e - 1) * d:=by grind
 rw [e1,e2]
 have:=Rat.mul_pos (Rat.mul_pos hd he) (show 0 < e - d by grind)
 grind
def cs (c d:Rat):Rat:=(c * d - 1) / (c + d)
theorem cs_eq {c d:Rat} (h:0 < c + d):cs c d * (c + d) = c * d - 1:=Rat.div_mul_cancel (Rat.ne_of_gt h)
theorem cs_mono {c d c' d':Rat} (h:0 < c + d) (h1:c≤c') (h2:d≤d'):cs c d≤cs c' d':=by
 have h':0 < c' + d':=by grind
 have h3:0 < c' + d:=by grind
 have sq:∀ x:Rat,0≤x * x:=fun x => by
  by_cases h3:0≤x
  ·exact Rat.mul_nonneg h3 h3
  ·have:=Rat.mul_nonneg (show 0≤-x by grind) (show 0≤-x by grind)
   grind
 have e1:=cs_eq h
 have e2:=cs_eq h3
 have e3:=cs_eq h'
 have s1:cs c d≤cs c' d:=by
  refine le_of_mul (Rat.mul_pos h h3) ?_
  have q1:cs c d * ((c + d) * (c' + d)) = (c * d - 1) * (c' + d):=by grind
  have q2:cs c' d * ((c + d) * (c' + d)) = (c' * d - 1) * (c + d):=by grind
  rw [q1,q2]
  have:=Rat.mul_nonneg (show 0≤c' - c by grind) (show 0≤d * d + 1 by have:=sq d;grind)
  grind
 have s2:cs c' d≤cs c' d':=by
  refine le_of_mul (Rat.mul_pos h3 h') ?_
  have q1:cs c' d * ((c' + d) * (c' + d')) = (c' * d - 1) * (c' + d'):=by grind
  have q2:cs c' d' * ((c' + d) * (c' + d')) = (c' * d' - 1) * (c' + d):=by grind
  rw [q1,q2]
  have:=Rat.mul_nonneg (show 0≤d' - d by grind) (show 0≤c' * c' + 1 by have:=sq c';grind)
  grind
 exact Rat.le_trans s1 s2
theorem kd_sum {d e:Rat} (hd:0 < d) (he:0 < e):(kd d + kd e) * (2 * (d * e)) = (d + e) * (d * e - 1):=by
 have h1:=kd_eq hd
 have h2:=kd_eq he
 have e1:kd d * (2 * (d * e)) = (d * d - 1) * e:=by grind
 have e2:kd e * (2 * (d * e)) = (e * e - 1) * d:=by grind
 grind
theorem cs_pos {d e:Rat} (hd:0 < d) (he:0 < e) (h:1 < d * e):0 < cs d e:=by
 refine lt_of_mul9 (c:=d + e) (by grind) ?_
 rw [cs_eq (by grind)]
 grind
theorem kd_cs {d e:Rat} (hd:0 < d) (he:0 < e) (h:1 < d * e):kd (cs d e) = cs (kd d) (kd e):=by
 have hp:=cs_pos hd he h
 have h1:=kd_eq hd
 have h2:=kd_eq he
 have h3:=kd_eq hp
 have h4:=kd_sum hd he
 have hde:=Rat.mul_pos hd he
 have hs:0 < kd d + kd e:=by
  refine lt_of_mul9 (c:=2 * (d * e)) (by grind) ?_
  rw [h4,Rat.zero_mul]
  exact Rat.mul_pos (by grind) (by grind)
 have h5:=cs_eq hs
 have h6:=cs_eq (show 0 < d + e by grind)
 generalize cs d e = s at *
 generalize cs (kd d) (kd e) = r at *
 generalize kd s = k at *
 generalize kd d = p at *
 generalize kd e = q at *
 have hm:0 < 2 * s * (p + q) * (4 * (d * e)) * (d + e) * (d + e):=Rat.mul_pos (Rat.mul_pos (Rat.mul_pos (Rat.mul_pos (by grind) hs) (by grind)) (by grind)) (by grind)
 have eq:k * (2 * s * (p + q) * (4 * (d * e)) * (d + e) * (d + e)) = r * (2 * s * (p + q) * (4 * (d * e)) * (d + e) * (d + e)):=by
  have a1:k * (2 * s * (p + q) * (4 * (d * e)) * (d + e) * (d + e)) = (k * (2 * s)) * (2 * ((p + q) * (2 * (d * e)))) * (d + e) * (d + e):=by grind
  have a2:r * (2 * s * (p + q) * (4 * (d * e)) * (d + e) * (d + e)) = 2 * (r * (p + q)) * (4 * (d * e)) * (s * (d + e)) * (d + e):=by grind
  have a3:(s * s - 1) * (d + e) * (d + e) = (d * e - 1) * (d * e - 1) - (d + e) * (d + e):=by
   have:s * s * (d + e) * (d + e) = (s * (d + e)) * (s * (d + e)):=by grind
   grind
  have a4:(p * q - 1) * (4 * (d * e)) = (d * d - 1) * (e * e - 1) - 4 * (d * e):=by
   have:p * q * (4 * (d * e)) = (p * (2 * d)) * (q * (2 * e)):=by grind
   grind
  rw [a1,a2,h3,h4,h5,h6]
  have b1:(s * s - 1) * (2 * ((d + e) * (d * e - 1))) * (d + e) * (d + e) = ((s * s - 1) * (d + e) * (d + e)) * (2 * ((d + e) * (d * e - 1))):=by grind
  have b2:2 * (p * q - 1) * (4 * (d * e)) * (d * e - 1) * (d + e) = ((p * q - 1) * (4 * (d * e))) * (2 * ((d + e) * (d * e - 1))):=by grind
  rw [b1,b2,a3,a4]
  grind
 have l1:k≤r:=le_of_mul hm (by rw [eq];exact Rat.le_refl)
 have l2:r≤k:=le_of_mul hm (by rw [eq];exact Rat.le_refl)
 exact Rat.le_antisymm l1 l2
def GL:Nat → Rat → Rat → Prop
 | 0,a,c => c * a≤1
 | n + 1,a,c => ∃ d,0 < d∧GL n (a / 2) d∧c≤kd d
def GU:Nat → Rat → Rat → Prop
 | 0,b,c => 1 - b * b≤c * b
 | n + 1,b,c => ∃ d,0 < d∧GU n (b / 2) d∧kd d≤c
theorem GL.mono {n:Nat} {a c c':Rat} (h:GL n a c) (ha:0≤a) (hc:c'≤c):GL n a c':=by
 cases n with
 | zero => exact Rat.le_trans (Rat.mul_le_mul_of_nonneg_right hc ha) h
 | succ n => obtain ⟨d,h1,h2,h3⟩:=h;exact ⟨d,h1,h2,Rat.le_trans hc h3⟩
theorem GU.mono {n:Nat} {b c c':Rat} (h:GU n b c) (hb:0≤b) (hc:c≤c'):GU n b c':=by
 cases n with
 | zero => exact Rat.le_trans h (Rat.mul_le_mul_of_nonneg_right hc hb)
 | succ n => obtain ⟨d,h1,h2,h3⟩:=h;exact ⟨d,h1,h2,Rat.le_trans h3 hc⟩
theorem GL.up {n:Nat}:∀ {a a' c:Rat},GL n a c → 0≤a' → a'≤a → 0≤c → GL n a' c:=by
 induction n with
 | zero => intro a a' c h h0 ha hc;exact Rat.le_trans (Rat.mul_le_mul_of_nonneg_left ha hc) h
 | succ n ih => intro a a' c h h0 ha hc;obtain ⟨d,h1,h2,h3⟩:=h;exact ⟨d,h1,ih h2 (by grind) (by grind) (Rat.le_of_lt h1),h3⟩
theorem gl_gu {n:Nat}:∀ {a b c c':Rat},GL n a c → GU n b c' → 0 < b → b < a → a * (b * b) * (hn n * hn n) < a - b → c < c':=by
  induction n with
  | zero =>
    intro a b c c' h1 h2 hb hab hs
    rw [show hn 0 = 1 from rfl] at hs
    have ha:0 < a:=by grind
    refine lt_of_mul9 (Rat.mul_pos ha hb) ?_
    have e1:c * (a * b)≤b:=by
      have:=Rat.mul_le_mul_of_nonneg_right h1 (Rat.le_of_lt hb)
      grind
    have e2:a - a * (b * b)≤c' * (a * b):=by
      have:=Rat.mul_le_mul_of_nonneg_left h2 (Rat.le_of_lt ha)
      grind
    grind
  | succ n ih =>
    intro a b c c' h1 h2 hb hab hs
    obtain ⟨d,d0,d1,d2⟩:=h1
    obtain ⟨e,e0,e1,e2⟩:=h2
    have:=ih d1 e1 (by grind) (by grind) (by rw [hn_succ] at hs;grind)
    have:=kd_lt d0 this
    grind
theorem GL.add {n:Nat}:∀ {a b c d:Rat},0 < a → 0 < b → GL n a c → GL n b d → 0 < c + d → GL n (a + b) (cs c d):=by
  induction n with
  | zero =>
    intro a b c d ha hb h1 h2 hs
    show cs c d * (a + b)≤1
    have e:=cs_eq hs
    refine le_of_mul (c:=(c + d)) hs ?_
    have q1:cs c d * (a + b) * (c + d) = (c * d - 1) * (a + b):=by grind
    rw [q1]
    have r1:c * a≤1:=h1
    have r2:d * b≤1:=h2
    by_cases hc:0≤c
    · by_cases hd:0≤d
      · have p1:=Rat.mul_le_mul_of_nonneg_right r1 hd
        have p2:=Rat.mul_le_mul_of_nonneg_right r2 hc
        grind
      · have p1:=Rat.mul_nonneg hc (show 0≤-d by grind)
        have p2:=Rat.mul_nonneg p1 (show 0≤a + b by grind)
        grind
    · have p1:=Rat.mul_nonneg (show 0≤-c by grind) (show 0≤d by grind)
      have p2:=Rat.mul_nonneg p1 (show 0≤a + b by grind)
      grind
  | succ n ih =>
    intro a b c d ha hb h1 h2 hs
    obtain ⟨x,x0,x1,x2⟩:=h1
    obtain ⟨y,y0,y1,y2⟩:=h2
    have hk:0 < kd x + kd y:=by grind
    have hxy:=Rat.mul_pos x0 y0
    have hp:1 < x * y:=by
      have e:=kd_sum x0 y0
      have p:=Rat.mul_pos hk (show 0 < 2 * (x * y) by grind)
      rw [e] at p
      by_cases h:1 < x * y
      · exact h
      · have:=Rat.mul_nonneg (show 0≤x + y by grind) (show 0≤1 - x * y by grind)
        grind
    have:=ih (show 0 < a / 2 by grind) (show 0 < b / 2 by grind) x1 y1 (by grind)
    refine ⟨cs x y,cs_pos x0 y0 hp,?_,?_⟩
    · rw [show (a + b) / 2 = a / 2 + b / 2 by grind];exact this
    · rw [kd_cs x0 y0 hp];exact cs_mono hs x2 y2
theorem low_kd (T:Rat):∃ f,0 < f∧f≤1∧kd f≤T:=by
 obtain ⟨u,hu0,hu⟩:∃ u:Rat,0≤u∧-u≤T:=by
  by_cases h:0≤T
  ·exact ⟨0,by grind,by grind⟩
  ·exact ⟨-T,by grind,by grind⟩
 have hp:0 < 2 + 2 * u:=by grind
 have hi:=Rat.inv_mul_cancel (2 + 2 * u) (Rat.ne_of_gt hp)
 have hf:0 < (2 + 2 * u)⁻¹:=Rat.inv_pos.2 hp
 have h1:(2 + 2 * u)⁻¹≤1:=by
  refine le_of_mul hp ?_
  rw [hi];grind
 refine ⟨(2 + 2 * u)⁻¹,hf,h1,?_⟩
 unfold kd
 rw [Rat.inv_inv]
 grind
theorem GU.add {n:Nat}:∀ {a b c d:Rat},0 < a → 0 < b → a * hn n≤4 / 5 → b * hn n≤4 / 5 → GU n a c → GU n b d → 0 < c + d → GU n (a + b) (cs c d):=by
  induction n with
  | zero =>
    intro a b c d ha hb ka kb h1 h2 hs
    rw [show hn 0 = 1 from rfl,Rat.mul_one] at ka kb
    show 1 - (a + b) * (a + b)≤cs c d * (a + b)
    have r1:1 - a * a≤c * a:=h1
    have r2:1 - b * b≤d * b:=h2
    have aa:a * a≤16 / 25:=by
      have:=rmul_le ka ka (by grind) (by grind)
      grind
    have bb:b * b≤16 / 25:=by
      have:=rmul_le kb kb (by grind) (by grind)
      grind
    have ab:a * b≤16 / 25:=by
      have:=rmul_le ka kb (by grind) (by grind)
      grind
    have hab:=Rat.mul_pos ha hb
    obtain ⟨m,hm⟩:∃ m,m * a = 1 - a * a:=⟨(1 - a * a) / a,Rat.div_mul_cancel (Rat.ne_of_gt ha)⟩
    obtain ⟨k,hk⟩:∃ m,m * b = 1 - b * b:=⟨(1 - b * b) / b,Rat.div_mul_cancel (Rat.ne_of_gt hb)⟩
    have hmc:m≤c:=le_of_mul ha (by grind)
    have hkd:k≤d:=le_of_mul hb (by grind)
    have hm0:0 < m:=lt_of_mul9 ha (by grind)
    have hk0:0 < k:=lt_of_mul9 hb (by grind)
    have le:=cs_mono (show 0 < m + k by grind) hmc hkd
    refine Rat.le_trans ?_ (Rat.mul_le_mul_of_nonneg_right le (show 0≤a + b by grind))
    have e:=cs_eq (show 0 < m + k by grind)
    generalize cs m k = r at *
    have e2:r * ((m * a) * b + (k * b) * a) = (m * a) * (k * b) - a * b:=by
      have:r * ((m * a) * b + (k * b) * a) = r * (m + k) * (a * b):=by grind
      rw [this,e];grind
    rw [hm,hk] at e2
    refine le_of_mul (c:=1 - a * b) (by grind) ?_
    have t1:=Rat.mul_nonneg (Rat.le_of_lt hab) (show 0≤2 - a * a - b * b - a * b by grind)
    have e3:r * (a + b) * (1 - a * b) = r * ((1 - a * a) * b + (1 - b * b) * a):=by grind
    rw [e3,e2]
    clear e e2 e3 le hmc hkd hm hk r1 r2 h1 h2
    grind
  | succ n ih =>
    intro a b c d ha hb ka kb h1 h2 hs
    obtain ⟨x,x0,x1,x2⟩:=h1
    obtain ⟨y,y0,y1,y2⟩:=h2
    have hxy:=Rat.mul_pos x0 y0
    rw [hn_succ] at ka kb
    have hi:=ih (show 0 < a / 2 by grind) (show 0 < b / 2 by grind) (by grind) (by grind) x1 y1 (by grind)
    rw [show a / 2 + b / 2 = (a + b) / 2 by grind] at hi
    by_cases hp:1 < x * y
    · have hk:0 < kd x + kd y:=by
        refine lt_of_mul9 (c:=2 * (x * y)) (by grind) ?_
        rw [kd_sum x0 y0,Rat.zero_mul]
        exact Rat.mul_pos (by grind) (by grind)
      refine ⟨cs x y,cs_pos x0 y0 hp,hi,?_⟩
      rw [kd_cs x0 y0 hp];exact cs_mono hk x2 y2
    · obtain ⟨f,f0,_,f2⟩:=low_kd (cs c d)
      refine ⟨f,f0,hi.mono (by grind) ?_,f2⟩
      refine Rat.le_trans ?_ (Rat.le_of_lt f0)
      refine le_of_mul (c:=x + y) (by grind) ?_
      rw [cs_eq (show 0 < x + y by grind)]
      grind
def LoC (a c:Rat):Prop:=∀ a',0 < a' → a' < a → ∀ n,GL n a' c
def UpC (c b:Rat):Prop:=0≤b∧∀ b',b < b' → ∃ N,∀ n,N≤n → GU n b' c
theorem hn_lin (n:Nat):((n:Rat) + 1) * hn n≤1:=by
  induction n with
  | zero => decide +kernel
  | succ n ih =>
    have e:((n + 1:Nat):Rat) = (n:Rat) + 1:=by push_cast;rfl
    have h0:=hn_pos n
    have h1:(0:Rat)≤(n:Rat):=by exact_mod_cast Nat.zero_le n
    have:=Rat.mul_nonneg h1 (Rat.le_of_lt h0)
    rw [e,hn_succ]
    grind
theorem nat_over (x:Rat):∃ N:Nat,x < (N:Rat):=by
 refine ⟨x.ceil.toNat + 1,?_⟩
 have h1:=Rat.le_ceil (x:=x)
 have h2:(x.ceil:Rat)≤((x.ceil.toNat:Int):Rat):=Rat.intCast_le_intCast.2 (Int.self_le_toNat _)
 have e:((x.ceil.toNat + 1:Nat):Rat) = (x.ceil.toNat:Rat) + 1:=by push_cast;rfl
 rw [e]
 rw [Rat.intCast_natCast] at h2
 grind
theorem hn_quick {x y:Rat} (hy:0 < y) (hx:0≤x):∃ N,∀ n,N≤n → x * hn n < y:=by
 obtain ⟨N,hN⟩:=nat_over (x / y)
 refine ⟨N,fun n hn => ?_⟩
 have e:x / y * y = x:=Rat.div_mul_cancel (Rat.ne_of_gt hy)
 have h1:=hn_lin n
 have h2:(N:Rat)≤(n:Rat):=by exact_mod_cast hn
 have h0:(0:Rat)≤(n:Rat):=by exact_mod_cast Nat.zero_le n
 have h3:=Rat.mul_lt_mul_of_pos_right (show x / y < (n:Rat) + 1 by grind) hy
 rw [e] at h3
 have h4:=Rat.mul_le_mul_of_nonneg_left h1 hx
 refine lt_of_mul9 (c:=(n:Rat) + 1) (by grind) ?_
 grind
theorem LoC.nonpos {a c:Rat} (h:a≤0):LoC a c:=fun a' h1 h2 => by grind
theorem LoC.mono {a a' c c':Rat} (h:LoC a c) (ha:a'≤a) (hc:c'≤c):LoC a' c':=fun x h1 h2 n => (h x h1 (by grind) n).mono (Rat.le_of_lt h1) hc
theorem UpC.mono {b b' c c':Rat} (h:UpC c b) (hb:b≤b') (hc:c≤c'):UpC c' b':=⟨by have:=h.1;grind,fun x h1 => by
 obtain ⟨N,hN⟩:=h.2 x (by grind)
 exact ⟨N,fun n hn => (hN n hn).mono (by have:=h.1;grind) hc⟩⟩
theorem LoC.all {a c:Rat} (h:∀ e,0 < e → LoC (a - e) c):LoC a c:=fun x h1 h2 n => h ((a - x) / 2) (by grind) x h1 (by grind) n
theorem UpC.all {b c:Rat} (hb:0≤b) (h:∀ e,0 < e → UpC c (b + e)):UpC c b:=⟨hb,fun x h1 => (h ((x - b) / 2) (by grind)).2 x (by grind)⟩
theorem LoC.le {a b c c':Rat} (h:LoC a c) (k:UpC c' b) (hc:c'≤c):a≤b:=by
 by_cases hab:a≤b
 ·exact hab
 have hb:=k.1
 obtain ⟨y,hy⟩:∃ y,y = b + (a - b) / 3:=⟨_,rfl⟩
 obtain ⟨x,hx⟩:∃ x,x = b + 2 * ((a - b) / 3):=⟨_,rfl⟩
 obtain ⟨N,hN⟩:=k.2 y (by grind)
 have hy0:0 < y:=by grind
 have hx0:0 < x:=by grind
 have hxy:y < x:=by grind
 have hp:0 < x * (y * y):=Rat.mul_pos hx0 (Rat.mul_pos hy0 hy0)
 obtain ⟨M,hM⟩:=hn_quick (x:=x * (y * y)) (y:=x - y) (by grind) (Rat.le_of_lt hp)
 have h1:=h x hx0 (by grind) (N + M)
 have h2:=hN (N + M) (by omega)
 have h3:=hM (N + M) (by omega)
 have hq:=hn_pos (N + M)
 have hq1:hn (N + M)≤1:=hn_le (n:=0) (by omega)
 have h4:=gl_gu h1 h2 hy0 hxy (by
  have:=Rat.mul_le_mul_of_nonneg_left hq1 (Rat.le_of_lt (Rat.mul_pos hp hq))
  grind)
 grind
theorem LoC.dbl {a c d:Rat} (h:LoC a d) (hd:0 < d) (hc:c≤kd d):LoC (2 * a) c:=fun x h1 h2 n => by
  have hx:x / 2 < a:=by grind
  cases n with
  | zero =>
    have:=h (x / 2) (by grind) hx 0
    show c * x≤1
    have e:d * (x / 2)≤1:=this
    have k:kd d≤d / 2:=by
      have:=Rat.inv_pos.2 hd
      unfold kd
      grind
    have:=Rat.mul_le_mul_of_nonneg_right (Rat.le_trans hc k) (Rat.le_of_lt h1)
    grind
  | succ n => exact ⟨d,hd,h (x / 2) (by grind) hx n,hc⟩
theorem UpC.dbl {b c d:Rat} (h:UpC d b) (hd:0 < d) (hc:kd d≤c):UpC c (2 * b):=⟨by have:=h.1;grind,fun x h1 => by
 obtain ⟨N,hN⟩:=h.2 (x / 2) (by grind)
 refine ⟨N + 1,fun n hn => ?_⟩
 obtain ⟨m,rfl⟩:∃ m,n = m + 1:=⟨n - 1,by omega⟩
 exact ⟨d,hd,hN m (by omega),hc⟩⟩
theorem LoC.add {a b c d:Rat} (h:LoC a c) (k:LoC b d) (hc:0 < c) (hd:0 < d):LoC (a + b) (cs c d):=fun x h1 h2 n => by
 have e:=cs_eq (show 0 < c + d by grind)
 have le1:cs c d≤c:=by
  refine le_of_mul (c:=c + d) (by grind) ?_
  rw [e]
  have:=Rat.mul_pos hc hc
  grind
 have le2:cs c d≤d:=by
  refine le_of_mul (c:=c + d) (by grind) ?_
  rw [e]
  have:=Rat.mul_pos hd hd
  grind
 by_cases ha:0 < a
 ·by_cases hb:0 < b
  ·-- split x
   by_cases hx:x≤a / 2
   ·exact (h x h1 (by grind) n).mono (Rat.le_of_lt h1) le1
   ·by_cases hx2:x≤b / 2
    ·exact (k x h1 (by grind) n).mono (Rat.le_of_lt h1) le2
    ·obtain ⟨t,ht⟩:∃ t,t = x / (a + b):=⟨_,rfl⟩
     have et:t * (a + b) = x:=by rw [ht];exact Rat.div_mul_cancel (Rat.ne_of_gt (by grind))
     have t0:0 < t:=lt_of_mul9 (c:=a + b) (by grind) (by grind)
     have t1:t < 1:=lt_of_mul9 (c:=a + b) (by grind) (by grind)
     have g1:=h (t * a) (Rat.mul_pos t0 ha) (by have:=Rat.mul_pos (show 0 < 1 - t by grind) ha;grind) n
     have g2:=k (t * b) (Rat.mul_pos t0 hb) (by have:=Rat.mul_pos (show 0 < 1 - t by grind) hb;grind) n
     have:=GL.add (Rat.mul_pos t0 ha) (Rat.mul_pos t0 hb) g1 g2 (by grind)
     rwa [show t * a + t * b = x by grind] at this
  ·exact (h x h1 (by grind) n).mono (Rat.le_of_lt h1) le1
 ·exact (k x h1 (by grind) n).mono (Rat.le_of_lt h1) le2
theorem UpC.add {a b c d:Rat} (h:UpC c a) (k:UpC d b) (hcd:0 < c + d):UpC (cs c d) (a + b):=⟨by have:=h.1;have:=k.1;grind,fun x h1 => by
 have ha:=h.1
 have hb:=k.1
 obtain ⟨e,he⟩:∃ e,e = (x - (a + b)) / 2:=⟨_,rfl⟩
 obtain ⟨N,hN⟩:=h.2 (a + e) (by grind)
 obtain ⟨M,hM⟩:=k.2 (b + e) (by grind)
 obtain ⟨A,hA⟩:=hn_quick (x:=a + e) (y:=4 / 5) (by grind) (by grind)
 obtain ⟨B,hB⟩:=hn_quick (x:=b + e) (y:=4 / 5) (by grind) (by grind)
 refine ⟨N + M + A + B,fun n hn => ?_⟩
 have:=GU.add (show 0 < a + e by grind) (show 0 < b + e by grind) (Rat.le_of_lt (hA n (by omega))) (Rat.le_of_lt (hB n (by omega))) (hN n (by omega)) (hM n (by omega)) hcd
 rwa [show a + e + (b + e) = x by grind] at this⟩
theorem gl_m {n:Nat}:∀ {a c:Rat},0 < a → a≤4 / 5 → c * a≤1 - a * a → GL n a c:=by
  induction n with
  | zero => intro a c h0 h1 h2;show c * a≤1;have:=Rat.mul_pos h0 h0;grind
  | succ n ih =>
    intro a c h0 h1 h2
    obtain ⟨h,hh⟩:∃ h,h = a / 2:=⟨_,rfl⟩
    have hp:0 < h:=by grind
    have sq:h * h≤4 / 25:=by
      have:=rmul_le (show h≤2 / 5 by grind) (show h≤2 / 5 by grind) (by grind) (by grind)
      grind
    have s0:=Rat.mul_pos hp hp
    obtain ⟨d,hd⟩:∃ d,d * h = 1 - h * h:=⟨(1 - h * h) / h,Rat.div_mul_cancel (Rat.ne_of_gt hp)⟩
    have d0:0 < d:=lt_of_mul9 hp (by grind)
    refine ⟨d,d0,?_,?_⟩
    · rw [← hh]
      exact ih hp (by grind) (by rw [hd];exact Rat.le_refl)
    · have e:=kd_eq d0
      generalize kd d = k at *
      have hp2:0 < 4 * (d * h) * h:=by
        have:=Rat.mul_pos (Rat.mul_pos d0 hp) hp
        grind
      refine le_of_mul hp2 ?_
      have q1:c * (4 * (d * h) * h) = (c * a) * (2 * (1 - h * h)):=by rw [hd];grind
      have q2:k * (4 * (d * h) * h) = 2 * ((d * h) * (d * h) - h * h):=by
        have:k * (4 * (d * h) * h) = (k * (2 * d)) * (2 * (h * h)):=by grind
        rw [this,e];grind
      rw [q1,q2,hd]
      have q3:=Rat.mul_le_mul_of_nonneg_right h2 (show 0≤2 * (1 - h * h) by grind)
      refine Rat.le_trans q3 ?_
      have ea:a = 2 * h:=by grind
      rw [ea]
      have:=Rat.mul_nonneg (Rat.le_of_lt s0) (show 0≤2 - 3 * (h * h) by grind)
      clear q1 q2 q3 e hd ih
      grind
theorem gu_s {n:Nat}:∀ {b c:Rat},0 < b → 1≤c * b → GU n b c:=by
  induction n with
  | zero => intro b c h0 h1;show 1 - b * b≤c * b;have:=Rat.mul_pos h0 h0;grind
  | succ n ih =>
    intro b c h0 h1
    have hi:=Rat.inv_pos.2 h0
    have e:=Rat.inv_mul_cancel b (Rat.ne_of_gt h0)
    refine ⟨2 * b⁻¹,by grind,ih (by grind) (by grind),?_⟩
    have k:kd (2 * b⁻¹)≤b⁻¹:=by
      have:=Rat.inv_pos.2 (show 0 < 2 * b⁻¹ by grind)
      unfold kd
      generalize (2 * b⁻¹)⁻¹ = x at *
      grind
    refine Rat.le_trans k ?_
    refine le_of_mul h0 ?_
    grind
theorem LoC.small {s c:Rat} (hs:0 < s) (hc:c * s≤1) (c0:0≤c):LoC (s / (1 + s * s)) c:=fun x h1 h2 n => by
 have s2:=Rat.mul_pos hs hs
 have hp:0 < 1 + s * s:=by grind
 have e:s / (1 + s * s) * (1 + s * s) = s:=Rat.div_mul_cancel (Rat.ne_of_gt hp)
 generalize s / (1 + s * s) = a at *
 have ha:0 < a:=by grind
 have a1:a≤1 / 2:=by
  refine le_of_mul hp ?_
  rw [e]
  have:0≤(1 - s) * (1 - s):=by
   by_cases h3:0≤1 - s
   ·exact Rat.mul_nonneg h3 h3
   ·have:=Rat.mul_nonneg (show 0≤-(1 - s) by grind) (show 0≤-(1 - s) by grind)
    grind
  grind
 have a2:a≤s:=by
  have:=Rat.mul_nonneg (Rat.le_of_lt ha) (Rat.le_of_lt s2)
  grind
 refine (gl_m (n:=n) (c:=c) ha (by grind) ?_).up (by grind) (by grind) c0
 -- c a≤1 - a a
 refine le_of_mul hs ?_
 have q1:=Rat.mul_le_mul_of_nonneg_right hc (Rat.le_of_lt ha)
 have q2:(1 - a * a) * s = s - a * (a * s):=by grind
 have q3:a * s * a≤a * s * s:=Rat.mul_le_mul_of_nonneg_left a2 (Rat.le_of_lt (Rat.mul_pos ha hs))
 grind
theorem UpC.small {s c:Rat} (hs:0 < s) (hc:1≤c * s):UpC c s:=⟨Rat.le_of_lt hs,fun x h1 => ⟨0,fun n _ => by
 have c0:0 < c:=lt_of_mul9 hs (by grind)
 have:=Rat.mul_le_mul_of_nonneg_left (Rat.le_of_lt h1) (Rat.le_of_lt c0)
 exact gu_s (by grind) (by grind)⟩⟩
def sr (p:Nat → Bool):Nat → Rat → Rat
 | 0,_ => 0
 | n + 1,z => sr p n z + if p n then rp z (2 * n + 1) / (((2 * n:Nat):Rat) + 1) else 0
def gr (p:Nat → Bool):Nat → Rat → Rat
 | 0,_ => 0
 | n + 1,z => gr p n z + if p n then rp z (2 * n) else 0
theorem sr_diff (p:Nat → Bool) (n:Nat) {t h:Rat} (ht:0≤t) (hh:0≤h):h * gr p n t≤sr p n (t + h) - sr p n t∧sr p n (t + h) - sr p n t≤h * gr p n (t + h):=by
  induction n with
  | zero =>
    show h * 0≤(0:Rat) - 0∧(0:Rat) - 0≤h * 0
    constructor <;> grind
  | succ n ih =>
    cases hp:p n with
    | false =>
      have e1:∀ z,sr p (n + 1) z = sr p n z + 0:=fun z => by show sr p n z + (if p n then _ else (0:Rat)) = _;rw [hp];rfl
      have e2:∀ z,gr p (n + 1) z = gr p n z + 0:=fun z => by show gr p n z + (if p n then _ else (0:Rat)) = _;rw [hp];rfl
      rw [e1,e1,e2,e2]
      simp only [Rat.add_zero]
      exact ih
    | true =>
      have e1:∀ z,sr p (n + 1) z = sr p n z + rp z (2 * n + 1) / (((2 * n:Nat):Rat) + 1):=fun z => by show sr p n z + (if p n then _ else (0:Rat)) = _;rw [hp];rfl
      have e2:∀ z,gr p (n + 1) z = gr p n z + rp z (2 * n):=fun z => by show gr p n z + (if p n then _ else (0:Rat)) = _;rw [hp];rfl
      rw [e1,e1,e2,e2]
      obtain ⟨a,b⟩:=rp_diff ht hh (2 * n)
      have k0:=nat_nn (2 * n)
      have hk:(0:Rat) < ((2 * n:Nat):Rat) + 1:=by grind
      obtain ⟨i1,i2⟩:=ih
      have e:rp (t + h) (2 * n + 1) / (((2 * n:Nat):Rat) + 1) - rp t (2 * n + 1) / (((2 * n:Nat):Rat) + 1) = (rp (t + h) (2 * n + 1) - rp t (2 * n + 1)) / (((2 * n:Nat):Rat) + 1):=by
        rw [Rat.div_def,Rat.div_def,Rat.div_def]
        grind
      have c1:h * rp t (2 * n)≤(rp (t + h) (2 * n + 1) - rp t (2 * n + 1)) / (((2 * n:Nat):Rat) + 1):=le_div9 hk (by grind)
      have c2:(rp (t + h) (2 * n + 1) - rp t (2 * n + 1)) / (((2 * n:Nat):Rat) + 1)≤h * rp (t + h) (2 * n):=div_le9 hk (by grind)
      rw [← e] at c1 c2
      generalize rp (t + h) (2 * n + 1) / (((2 * n:Nat):Rat) + 1) = A at *
      generalize rp t (2 * n + 1) / (((2 * n:Nat):Rat) + 1) = B at *
      generalize rp (t + h) (2 * n) = C at *
      generalize rp t (2 * n) = D at *
      clear a b e k0 hk e1 e2
      constructor <;> grind
def evn (k:Nat):Bool:=decide (k % 2 = 0)
def odn (k:Nat):Bool:=!evn k
def sgn9 (n:Nat):Rat:=if evn n then 1 else -1
theorem evn_succ (n:Nat):evn (n + 1) = !evn n:=by
 unfold evn
 by_cases h:n % 2 = 0
 ·rw [decide_eq_true h,decide_eq_false (by omega)];rfl
 ·rw [decide_eq_false h,decide_eq_true (by omega)];rfl
theorem gr_geo (n:Nat) (z:Rat):(gr evn n z - gr odn n z) * (1 + z * z) = 1 - sgn9 n * rp z (2 * n):=by
  induction n with
  | zero =>
    show (0 - 0) * (1 + z * z) = 1 - 1 * 1
    grind
  | succ n ih =>
    have e3:rp z (2 * (n + 1)) = rp z (2 * n) * z * z:=rfl
    have e1:gr evn (n + 1) z = gr evn n z + if evn n then rp z (2 * n) else 0:=rfl
    have e2:gr odn (n + 1) z = gr odn n z + if (!evn n) = true then rp z (2 * n) else 0:=rfl
    unfold sgn9 at ih ⊢
    rw [evn_succ,e1,e2,e3]
    cases he:evn n <;> rw [he] at ih <;> simp only [Bool.not_false,Bool.not_true,if_true,Bool.false_eq_true,if_false] at ih ⊢ <;> grind
theorem gr_nn (p:Nat → Bool) (n:Nat) {z:Rat} (h:0≤z):0≤gr p n z:=by
  induction n with
  | zero => exact Rat.le_refl
  | succ n ih =>
    show 0≤gr p n z + if p n then rp z (2 * n) else 0
    have:=rp_nn h (2 * n)
    split <;> grind
theorem sr_zero (p:Nat → Bool) (n:Nat):sr p n 0 = 0:=by
  induction n with
  | zero => rfl
  | succ n ih =>
    show sr p n 0 + (if p n then rp 0 (2 * n) * 0 / (((2 * n:Nat):Rat) + 1) else 0) = 0
    rw [ih,Rat.mul_zero,Rat.div_def,Rat.zero_mul]
    split <;> exact Rat.add_zero 0
def ats (n:Nat) (z:Rat):Rat:=sr evn n z - sr odn n z
theorem sgn_abs (n:Nat) {x:Rat} (h:0≤x):-x≤sgn9 n * x∧sgn9 n * x≤x:=by
 unfold sgn9
 split <;> constructor <;> grind
theorem atn_step (n:Nat) {t h r:Rat} (ht:0≤t) (hh:0 < h) (h1:t + h≤1) (hr:rp t (2 * n)≤r) :
  ∃ s,0 < s∧s * (1 + t * (t + h)) = h∧ats n (t + h) - ats n t - h * r - h * (gr evn n (t + h) - gr evn n t) - 2 * (h * h)≤s / (1 + s * s)∧s≤ats n (t + h) - ats n t + h * r + h * (gr odn n (t + h) - gr odn n t):=by
 obtain ⟨a1,a2⟩:=sr_diff evn n ht (Rat.le_of_lt hh)
 obtain ⟨b1,b2⟩:=sr_diff odn n ht (Rat.le_of_lt hh)
 have g:=gr_geo n t
 have r0:=rp_nn ht (2 * n)
 obtain ⟨s1,s2⟩:=sgn_abs n r0
 generalize sgn9 n * rp t (2 * n) = R at *
 have R1:R≤r:=Rat.le_trans s2 hr
 have R2:-r≤R:=by grind
 have t2:=Rat.mul_nonneg ht ht
 have th:=Rat.mul_nonneg ht (Rat.le_of_lt hh)
 have r9:0≤r:=Rat.le_trans r0 hr
 unfold ats
 generalize sr evn n (t + h) = E2 at *
 generalize sr evn n t = E1 at *
 generalize sr odn n (t + h) = O2 at *
 generalize sr odn n t = O1 at *
 generalize gr evn n (t + h) = F2 at *
 generalize gr evn n t = F1 at *
 generalize gr odn n (t + h) = P2 at *
 generalize gr odn n t = P1 at *
 -- q = h / (1 + t t)
 obtain ⟨q,hq⟩:∃ q,q * (1 + t * t) = h:=⟨h / (1 + t * t),Rat.div_mul_cancel (Rat.ne_of_gt (by grind))⟩
 have q0:0 < q:=lt_of_mul9 (c:=1 + t * t) (by grind) (by grind)
 have qh:q≤h:=by have:=Rat.mul_nonneg (Rat.le_of_lt q0) t2;grind
 have qr:=Rat.mul_nonneg (Rat.le_of_lt q0) r9
 have hD:h * (F1 - P1) = q * (1 - R):=by rw [← g,← hq];grind
 have d1:h * (F1 - P1)≤q + h * r:=by
  have m1:=Rat.mul_le_mul_of_nonneg_left R2 (Rat.le_of_lt q0)
  have m2:=Rat.mul_le_mul_of_nonneg_right qh r9
  grind
 have d2:q - h * r≤h * (F1 - P1):=by
  have m1:=Rat.mul_le_mul_of_nonneg_left R1 (Rat.le_of_lt q0)
  have m2:=Rat.mul_le_mul_of_nonneg_right qh r9
  grind
 have hp:0 < 1 + t * (t + h):=by grind
 obtain ⟨s,hs⟩:∃ s,s * (1 + t * (t + h)) = h:=⟨h / (1 + t * (t + h)),Rat.div_mul_cancel (Rat.ne_of_gt hp)⟩
 have s0:0 < s:=lt_of_mul9 hp (by grind)
 have sq:s≤q:=by
  refine le_of_mul (c:=1 + t * t) (by grind) ?_
  have:=Rat.mul_nonneg (Rat.le_of_lt s0) th
  grind
 refine ⟨s,s0,hs,?_,by grind⟩
 have main:q - 2 * (h * h)≤s / (1 + s * s):=by
  have ss:=Rat.mul_pos s0 s0
  have hp2:0 < 1 + s * s:=by grind
  have e:s / (1 + s * s) * (1 + s * s) = s:=Rat.div_mul_cancel (Rat.ne_of_gt hp2)
  generalize s / (1 + s * s) = y at *
  have y0:0 < y:=lt_of_mul9 hp2 (by grind)
  have ys:y≤s:=by have:=Rat.mul_nonneg (Rat.le_of_lt y0) (Rat.le_of_lt ss);grind
  -- y = s - y s s ≥ s - h h,s = q - (s t h) / (1 + t t) ≥ q - h h
  have k1:y * (s * s)≤h * h:=by
   have c1:=Rat.mul_le_mul_of_nonneg_right (show y≤1 by grind) (Rat.le_of_lt ss)
   have c2:=rmul_le (show s≤h by grind) (show s≤h by grind) (Rat.le_of_lt s0) (Rat.le_of_lt hh)
   grind
  have k2:q≤s + h * h:=by
   refine le_of_mul (c:=1 + t * t) (by grind) ?_
   have c1:s * (t * h)≤h * h:=by
    have:=rmul_le (show s≤h by grind) (show t * h≤1 * h from Rat.mul_le_mul_of_nonneg_right (by grind) (Rat.le_of_lt hh)) th (Rat.le_of_lt hh)
    grind
   have c2:=Rat.mul_nonneg (Rat.mul_nonneg (Rat.le_of_lt hh) (Rat.le_of_lt hh)) t2
   grind
  grind
 grind
theorem cot_step {t h s:Rat} (ht:0 < t) (hh:0 < h) (hs:s * (1 + t * (t + h)) = h) (s0:0 < s):cs t⁻¹ s⁻¹ = (t + h)⁻¹:=by
 have e1:=Rat.inv_mul_cancel t (Rat.ne_of_gt ht)
 have e2:=Rat.inv_mul_cancel s (Rat.ne_of_gt s0)
 have e3:=Rat.inv_mul_cancel (t + h) (Rat.ne_of_gt (by grind))
 have p1:=Rat.inv_pos.2 ht
 have p2:=Rat.inv_pos.2 s0
 have e:=cs_eq (show 0 < t⁻¹ + s⁻¹ by grind)
 generalize cs t⁻¹ s⁻¹ = x at *
 generalize t⁻¹ = a at *
 generalize s⁻¹ = b at *
 generalize (t + h)⁻¹ = y at *
 -- x (t + s) = 1 - t s ;(t + s) = (t + h)(1 - t s)
 have f1:x * (t + s) = 1 - t * s:=by
  have m:x * (t + s) = (x * (a + b)) * (t * s) + x * ((t + s) - (a + b) * (t * s)):=by grind
  have z1:(a + b) * (t * s) = t + s:=by
   have:(a + b) * (t * s) = (a * t) * s + (b * s) * t:=by grind
   rw [this,e1,e2];grind
  rw [m,z1,e]
  have:(a * b - 1) * (t * s) = (a * t) * (b * s) - t * s:=by grind
  rw [this,e1,e2];grind
 have f2:t + s = (t + h) * (1 - t * s):=by
  have:h = s + s * t * (t + h):=by rw [← hs];grind
  grind
 have q0:0 < 1 - t * s:=by
  refine lt_of_mul9 (c:=t + h) (by grind) ?_
  rw [Rat.zero_mul,Rat.mul_comm,← f2];grind
 have f3:x * (t + h) = 1:=by
  have u:x * (t + h) * (1 - t * s) = 1 * (1 - t * s):=by rw [← f2] at *;grind
  exact Rat.le_antisymm (le_of_mul q0 (by rw [u];exact Rat.le_refl)) (le_of_mul q0 (by rw [u];exact Rat.le_refl))
 have w:x * (t + h) = y * (t + h):=by rw [f3,e3]
 exact Rat.le_antisymm (le_of_mul (c:=t + h) (by grind) (by rw [w];exact Rat.le_refl)) (le_of_mul (c:=t + h) (by grind) (by rw [w];exact Rat.le_refl))
theorem at_ind (n:Nat) {z h r:Rat} (hh:0 < h) (hz:z≤1) (hr:rp z (2 * n)≤r):∀ j:Nat,((j + 1:Nat):Rat) * h≤z → LoC (ats n (((j + 1:Nat):Rat) * h) - ((j + 1:Nat):Rat) * h * r - h * gr evn n (((j + 1:Nat):Rat) * h) - 2 * h * (((j + 1:Nat):Rat) * h)) (((j + 1:Nat):Rat) * h)⁻¹∧UpC (((j + 1:Nat):Rat) * h)⁻¹ (ats n (((j + 1:Nat):Rat) * h) + ((j + 1:Nat):Rat) * h * r + h * gr odn n (((j + 1:Nat):Rat) * h))
  | 0,hj => by
    have e:((0 + 1:Nat):Rat) * h = 0 + h:=by rw [show ((0 + 1:Nat):Rat) = 1 from rfl];grind
    rw [e] at hj ⊢
    obtain ⟨s,s0,hs,s1,s2⟩:=atn_step n (t:=0) (r:=r) Rat.le_refl hh (by grind) (Rat.le_trans (rp_le Rat.le_refl (by grind) _) hr)
    have hsh:s = h:=by grind
    rw [hsh] at s1 s2
    have g1:=gr_nn evn n (z:=0) Rat.le_refl
    have g2:=gr_nn odn n (z:=0) Rat.le_refl
    have m1:=Rat.mul_nonneg (Rat.le_of_lt hh) g1
    have m2:=Rat.mul_nonneg (Rat.le_of_lt hh) g2
    have z0:ats n 0 = 0:=by unfold ats;rw [sr_zero,sr_zero];exact Rat.sub_self
    rw [z0] at s1 s2
    have hx:(0 + h)⁻¹ * h = 1:=by rw [Rat.zero_add];exact Rat.inv_mul_cancel h (Rat.ne_of_gt hh)
    have hx0:0 < (0 + h)⁻¹:=Rat.inv_pos.2 (by grind)
    refine ⟨(LoC.small hh (by rw [hx];exact Rat.le_refl) (Rat.le_of_lt hx0)).mono (by grind) Rat.le_refl,(UpC.small hh (by rw [hx];exact Rat.le_refl)).mono (by grind) Rat.le_refl⟩
  | j + 1,hj => by
    have e:((j + 1 + 1:Nat):Rat) * h = ((j + 1:Nat):Rat) * h + h:=by push_cast;grind
    rw [e] at hj ⊢
    obtain ⟨i1,i2⟩:=at_ind n hh hz hr j (by grind)
    have ht:0 < ((j + 1:Nat):Rat) * h:=Rat.mul_pos (by exact_mod_cast Nat.succ_pos j) hh
    generalize ((j + 1:Nat):Rat) * h = t at *
    obtain ⟨s,s0,hs,s1,s2⟩:=atn_step n (t:=t) (r:=r) (Rat.le_of_lt ht) hh (by grind) (Rat.le_trans (rp_le (Rat.le_of_lt ht) (by grind) _) hr)
    have c:=cot_step ht hh hs s0
    have hx:s⁻¹ * s = 1:=Rat.inv_mul_cancel s (Rat.ne_of_gt s0)
    have hx0:0 < s⁻¹:=Rat.inv_pos.2 s0
    have t0:0 < t⁻¹:=Rat.inv_pos.2 ht
    have l:=i1.add (LoC.small s0 (by rw [hx];exact Rat.le_refl) (Rat.le_of_lt hx0)) t0 hx0
    have u:=i2.add (UpC.small s0 (by rw [hx];exact Rat.le_refl)) (by grind)
    rw [c] at l u
    exact ⟨l.mono (by clear l u c i1 i2;grind) Rat.le_refl,u.mono (by clear l u c i1 i2;grind) Rat.le_refl⟩
theorem at_ser (n:Nat) {z r:Rat} (h0:0 < z) (h1:z≤1) (hr:rp z (2 * n)≤r):LoC (ats n z - z * r) z⁻¹∧UpC z⁻¹ (ats n z + z * r):=by
 have g1:=gr_nn evn n (Rat.le_of_lt h0)
 have g2:=gr_nn odn n (Rat.le_of_lt h0)
 have key:∀ e:Rat,0 < e → LoC (ats n z - z * r - e) z⁻¹∧UpC z⁻¹ (ats n z + z * r + e):=fun e he => by
  obtain ⟨C,hC⟩:∃ C,C = z * (gr evn n z + gr odn n z + 2 * z):=⟨_,rfl⟩
  obtain ⟨N,hN⟩:=nat_over (C / e)
  have eN:C / e * e = C:=Rat.div_mul_cancel (Rat.ne_of_gt he)
  have hN2:C≤((N + 1:Nat):Rat) * e:=by
   have p:((N + 1:Nat):Rat) = (N:Rat) + 1:=by push_cast;rfl
   have:=Rat.mul_lt_mul_of_pos_right hN he
   rw [p];grind
  have pN:(0:Rat) < ((N + 1:Nat):Rat):=by exact_mod_cast Nat.succ_pos N
  obtain ⟨h,hh⟩:∃ h,((N + 1:Nat):Rat) * h = z:=⟨z / ((N + 1:Nat):Rat),by rw [Rat.mul_comm];exact Rat.div_mul_cancel (Rat.ne_of_gt pN)⟩
  have hp:0 < h:=lt_of_mul9 pN (by grind)
  obtain ⟨l,u⟩:=at_ind n hp h1 hr N (by rw [hh];exact Rat.le_refl)
  rw [hh] at l u
  have hCe:h * (gr evn n z + gr odn n z + 2 * z)≤e:=by
   refine le_of_mul pN ?_
   have:h * (gr evn n z + gr odn n z + 2 * z) * ((N + 1:Nat):Rat) = C:=by rw [hC,← hh];grind
   rw [this];grind
  have m1:=Rat.mul_nonneg (Rat.le_of_lt hp) g1
  have m2:=Rat.mul_nonneg (Rat.le_of_lt hp) g2
  have m3:=Rat.mul_nonneg (Rat.le_of_lt hp) (Rat.le_of_lt h0)
  exact ⟨l.mono (by grind) Rat.le_refl,u.mono (by grind) Rat.le_refl⟩
 have hb:0≤ats n z + z * r:=by
  refine Rat.not_lt.1 fun hlt => ?_
  have:=(key (-(ats n z + z * r) / 2) (by grind)).2.1
  grind
 exact ⟨LoC.all fun e he => (key e he).1,UpC.all hb fun e he => (key e he).2⟩

theorem cut_nn {q:Rat} (h:0≤q) (p:Int):0≤cutQ q p:=by
 unfold cutQ
 rw [Rat.le_floor_iff]
 exact Rat.mul_nonneg h (Rat.le_of_lt (dq_pos p))
theorem dq_nn {m:Int} (e:Int) (h:0≤m):0≤dq m e:=by
 have:=(dq_le_iff 0 m e).2 h
 rwa [dq_zero] at this
def sqR (q:Rat) (k:Int):Int:=(rt 2 (cutQ q (2 * k)).natAbs:Int)
theorem sqR_nn (q:Rat) (k:Int):0≤sqR q k:=Int.natCast_nonneg _
theorem sqR_le {q:Rat} (h:0≤q) (k:Int):sqR q k * sqR q k≤cutQ q (2 * k):=by
 have h0:=cut_nn h (2 * k)
 have h1:=rt_le (cutQ q (2 * k)).natAbs (k:=2) (by omega)
 unfold sqR
 rw [Nat.pow_two] at h1
 have h2:=Int.ofNat_le.2 h1
 rw [Int.natAbs_of_nonneg h0,Int.natCast_mul] at h2
 exact h2
theorem sqR_lt {q:Rat} (h:0≤q) (k:Int):cutQ q (2 * k) + 1≤(sqR q k + 1) * (sqR q k + 1):=by
 have h0:=cut_nn h (2 * k)
 have h1:=rt_lt (cutQ q (2 * k)).natAbs (k:=2) (by omega)
 unfold sqR
 rw [Nat.pow_two] at h1
 have h2:=Int.ofNat_lt.2 h1
 rw [Int.natAbs_of_nonneg h0,Int.natCast_mul,Int.natCast_add] at h2
 exact h2
def sqU (q:Rat) (k:Int):Int:=if dq (sqR q k) (-k) * dq (sqR q k) (-k) = q then sqR q k else sqR q k + 1
theorem su_nn (q:Rat) (k:Int):0≤sqU q k:=by
 have:=sqR_nn q k
 unfold sqU
 split <;> omega
theorem su_le (q:Rat) (k:Int):sqU q k≤sqR q k + 1:=by
 unfold sqU
 split <;> omega
theorem dq_shl (j:Nat) (m e:Int):dq (m * 2 ^ j) e = dq m (e + (j:Int)):=dq_eq (F:=e) (by rw [show e - e = 0 by omega,show (e + (j:Int) - e).toNat = j by omega];simp) (by omega) (by omega)
def AtL (a x:Rat):Prop:=(0 < x∧LoC a x⁻¹) ∨ (x = 0∧a≤0) ∨ (x < 0∧UpC (-x)⁻¹ (-a))
def AtU (x b:Rat):Prop:=AtL (-b) (-x)
theorem AtL.neg {a x:Rat} (h:AtL a x):AtU (-x) (-a):=by
 unfold AtU
 rwa [Rat.neg_neg,Rat.neg_neg]
theorem AtU.neg {x b:Rat} (h:AtU x b):AtL (-b) (-x):=h
theorem inv_le9 {x y:Rat} (hx:0 < x) (h:x≤y):y⁻¹≤x⁻¹:=by
 have hy:0 < y:=by grind
 have e1:=Rat.inv_mul_cancel x (Rat.ne_of_gt hx)
 have e2:=Rat.inv_mul_cancel y (Rat.ne_of_gt hy)
 have p:=Rat.inv_pos.2 hx
 refine le_of_mul hy ?_
 rw [e2]
 have:=Rat.mul_le_mul_of_nonneg_left h (Rat.le_of_lt p)
 grind
theorem at_le {a b x y:Rat} (h:AtL a x) (k:AtU y b) (hxy:x≤y):a≤b:=by
 unfold AtU AtL at *
 rcases h with ⟨h0,h1⟩ | ⟨h0,h1⟩ | ⟨h0,h1⟩
 ·rcases k with ⟨k0,k1⟩ | ⟨k0,k1⟩ | ⟨k0,k1⟩
  ·grind
  ·grind
  ·rw [Rat.neg_neg,Rat.neg_neg] at k1
   exact h1.le k1 (inv_le9 h0 hxy)
 ·rcases k with ⟨k0,k1⟩ | ⟨k0,k1⟩ | ⟨k0,k1⟩
  ·grind
  ·grind
  ·rw [Rat.neg_neg,Rat.neg_neg] at k1
   have:=k1.1
   grind
 ·have n:=h1.1
  rcases k with ⟨k0,k1⟩ | ⟨k0,k1⟩ | ⟨k0,k1⟩
  ·have:=k1.le h1 (inv_le9 k0 (by grind))
   grind
  ·grind
  ·rw [Rat.neg_neg,Rat.neg_neg] at k1
   have:=k1.1
   grind
theorem AtL.mono {a a' x:Rat} (h:AtL a x) (ha:a'≤a):AtL a' x:=by
 rcases h with ⟨h0,h1⟩ | ⟨h0,h1⟩ | ⟨h0,h1⟩
 ·exact Or.inl ⟨h0,h1.mono ha Rat.le_refl⟩
 ·exact Or.inr (Or.inl ⟨h0,by grind⟩)
 ·exact Or.inr (Or.inr ⟨h0,h1.mono (by grind) Rat.le_refl⟩)
theorem AtU.mono {x b b':Rat} (h:AtU x b) (hb:b≤b'):AtU x b':=AtL.mono (a := -b) h (by grind)
theorem gr_le2 (p:Nat → Bool) (n:Nat) {y:Rat} (h0:0≤y) (h1:y≤1 / 2):gr p n y≤2:=by
  have l:∀ n,gr p n y≤gs n y:=fun n => by
    induction n with
    | zero => exact Rat.le_refl
    | succ n ih =>
      have:=rp_nn h0 (2 * n)
      show gr p n y + (if p n then rp y (2 * n) else 0)≤gs n y + rp y (2 * n)
      split <;> grind
  have g:=gs_geo n y
  have r:=rp_nn h0 (2 * n)
  have hl:=l n
  have yy:y * y≤1 / 4:=by
    have:=rmul_le h1 h1 h0 (by grind)
    grind
  have gp:gs n y≤2:=by
    refine le_of_mul (c:=1 - y * y) (by grind) ?_
    rw [g]
    grind
  exact Rat.le_trans hl gp
theorem rp_odd2 (n:Nat) {y:Rat} (h0:0≤y) (h1:y≤1 / 2):(((2 * n:Nat):Rat) + 1) * rp y (2 * n)≤1:=by
  induction n with
  | zero => show (((2 * 0:Nat):Rat) + 1) * 1≤1;decide +kernel
  | succ n ih =>
    have e:((2 * (n + 1):Nat):Rat) = ((2 * n:Nat):Rat) + 2:=by push_cast;grind
    have e2:rp y (2 * (n + 1)) = rp y (2 * n) * y * y:=rfl
    have k:=nat_nn (2 * n)
    have r:=rp_nn h0 (2 * n)
    have yy:y * y≤1 / 4:=by
      have:=rmul_le h1 h1 h0 (by grind)
      grind
    rw [e,e2]
    generalize ((2 * n:Nat):Rat) = m at *
    generalize rp y (2 * n) = z at *
    have zy:=Rat.mul_le_mul_of_nonneg_left yy r
    have s1:(m + 2 + 1) * (z * (y * y))≤(m + 2 + 1) * (z * (1 / 4)):=Rat.mul_le_mul_of_nonneg_left zy (by grind)
    have s2:z≤1:=by
      have:=Rat.mul_nonneg k r
      grind
    have s3:(m + 2 + 1) * (z * y * y) = (m + 2 + 1) * (z * (y * y)):=by grind
    rw [s3]
    grind
theorem at_beside (n:Nat) {x y u Z N:Rat} (u0:0≤u) (x0:0≤x) (x1:x≤1 / 4) (y0:0 < y) (y1:y≤1 / 2) (h1:x≤y + u) (h2:y≤x + u) (hr:rp x (2 * n + 1)≤2 * u) (hZ1:Z≤ats n x + N * u) (hZ2:ats n x≤Z + N * u) :
  LoC (Z - (N + 6) * u) y⁻¹∧UpC y⁻¹ (Z + (N + 6) * u):=by
 obtain ⟨l,k⟩:=at_ser n y0 (by grind) (Rat.le_refl (a:=rp y (2 * n)))
 have e:y * rp y (2 * n) = rp y (2 * n + 1):=Rat.mul_comm _ _
 rw [e] at l k
 have main:ats n y≤ats n x + 2 * u∧ats n x≤ats n y + 2 * u∧rp y (2 * n + 1)≤3 * u:=by
  unfold ats
  by_cases hxy:x≤y
  ·obtain ⟨h,hh⟩:∃ h,y = x + h:=⟨y - x,by grind⟩
   have h0:0≤h:=by grind
   obtain ⟨a1,a2⟩:=sr_diff evn n x0 h0
   obtain ⟨b1,b2⟩:=sr_diff odn n x0 h0
   have g1:=gr_le2 evn n (Rat.le_of_lt y0) y1
   have g2:=gr_le2 odn n (Rat.le_of_lt y0) y1
   have p1:=gr_nn evn n x0
   have p2:=gr_nn odn n x0
   obtain ⟨_,c2⟩:=rp_diff x0 h0 (2 * n)
   have o:=rp_odd2 n (Rat.le_of_lt y0) y1
   rw [hh] at g1 g2 o ⊢
   have m1:=Rat.mul_le_mul_of_nonneg_left g1 h0
   have m2:=Rat.mul_le_mul_of_nonneg_left g2 h0
   have m3:=Rat.mul_nonneg h0 p1
   have m4:=Rat.mul_nonneg h0 p2
   have m5:=Rat.mul_le_mul_of_nonneg_left o h0
   have m6:h * (((2 * n:Nat):Rat) + 1) * rp (x + h) (2 * n) = h * ((((2 * n:Nat):Rat) + 1) * rp (x + h) (2 * n)):=Rat.mul_assoc _ _ _
   rw [m6] at c2
   clear l k e g1 g2 p1 p2 o
   refine ⟨?_,?_,?_⟩ <;> grind
  ·obtain ⟨h,hh⟩:∃ h,x = y + h:=⟨x - y,by grind⟩
   have h0:0≤h:=by grind
   have yn:=Rat.le_of_lt y0
   obtain ⟨a1,a2⟩:=sr_diff evn n yn h0
   obtain ⟨b1,b2⟩:=sr_diff odn n yn h0
   have g1:=gr_le2 evn n x0 (by grind)
   have g2:=gr_le2 odn n x0 (by grind)
   have p1:=gr_nn evn n yn
   have p2:=gr_nn odn n yn
   have c2:=rp_le yn (show y≤x by grind) (2 * n + 1)
   rw [hh] at g1 g2 ⊢
   have m1:=Rat.mul_le_mul_of_nonneg_left g1 h0
   have m2:=Rat.mul_le_mul_of_nonneg_left g2 h0
   have m3:=Rat.mul_nonneg h0 p1
   have m4:=Rat.mul_nonneg h0 p2
   clear l k e g1 g2 p1 p2
   refine ⟨?_,?_,?_⟩ <;> grind
 obtain ⟨m1,m2,m3⟩:=main
 exact ⟨l.mono (by clear l k;grind) Rat.le_refl,k.mono (by clear l k;grind) Rat.le_refl⟩
theorem dq_fl (a b:Int) (p:Nat):dq (a * b / 2 ^ p) (-(p:Int))≤dq a (-(p:Int)) * dq b (-(p:Int))∧dq a (-(p:Int)) * dq b (-(p:Int))≤dq (a * b / 2 ^ p) (-(p:Int)) + dq 1 (-(p:Int)):=by
 have t:=two_cast p
 have u:=dq_pos (-(p:Int))
 have hp:=pow2_pos p
 have h1:a * b / 2 ^ p * 2 ^ p≤a * b:=Int.ediv_mul_le _ (Int.ne_of_gt hp)
 have h2:a * b≤(a * b / 2 ^ p + 1) * 2 ^ p:=Int.le_of_lt (Int.lt_ediv_add_one_mul_self _ hp)
 have c1:=Rat.intCast_le_intCast.2 h1
 have c2:=Rat.intCast_le_intCast.2 h2
 rw [Rat.intCast_mul,Rat.intCast_mul] at c1 c2
 rw [Rat.intCast_add] at c2
 rw [dq_scale a,dq_scale b,dq_scale (a * b / 2 ^ p)]
 generalize dq 1 (-(p:Int)) = U at *
 generalize (((2:Int) ^ p:Int):Rat) = T at *
 generalize ((a * b / 2 ^ p:Int):Rat) = F at *
 have o:((1:Int):Rat) = 1:=rfl
 rw [o] at c2
 have m1:=Rat.mul_le_mul_of_nonneg_right c1 (Rat.le_of_lt (Rat.mul_pos u u))
 have m2:=Rat.mul_le_mul_of_nonneg_right c2 (Rat.le_of_lt (Rat.mul_pos u u))
 have e1:F * T * (U * U) = F * U * (T * U):=by grind
 have e2:(F + 1) * T * (U * U) = (F + 1) * U * (T * U):=by grind
 rw [e1,t] at m1
 rw [e2,t] at m2
 constructor <;> grind
def pwA (Q X:Int) (p:Nat):Nat → Int
 | 0 => X
 | j + 1 => pwA Q X p j * Q / 2 ^ p
def smA (Q X:Int) (p:Nat):Nat → Int
 | 0 => 0
 | j + 1 => smA Q X p j + if evn j then pwA Q X p j / (2 * (j:Int) + 1) else -(pwA Q X p j / (2 * (j:Int) + 1))
structure SmX (X Q:Int) (p:Nat):Prop where
 nn:0≤X
 lt:X * 1024≤2 ^ p
 sq:Q = X * X / 2 ^ p
theorem SmX.q {X Q:Int} {p:Nat} (h:SmX X Q p):0≤Q∧Q * 1048576≤2 ^ p:=by
 have hp:=pow2_pos p
 have h2:=Int.mul_le_mul h.lt h.lt (by have:=h.nn;omega) (Int.le_of_lt hp)
 rw [h.sq]
 refine ⟨Int.ediv_nonneg (Int.mul_nonneg h.nn h.nn) (Int.le_of_lt hp),?_⟩
 refine Int.le_of_mul_le_mul_right (a:=2 ^ p) ?_ hp
 have h1:X * X / 2 ^ p * 2 ^ p≤X * X:=Int.ediv_mul_le _ (Int.ne_of_gt hp)
 generalize X * X / 2 ^ p = q at *
 generalize (2:Int) ^ p = P at *
 have e1:X * 1024 * (X * 1024) = X * X * 1048576:=by
  rw [show X * 1024 * (X * 1024) = X * (1024 * (X * 1024)) from Int.mul_assoc _ _ _,show 1024 * (X * 1024) = X * 1024 * 1024 from Int.mul_comm _ _,Int.mul_assoc X 1024 1024,← Int.mul_assoc X X]
  rfl
 have e2:q * 1048576 * P = q * P * 1048576:=by rw [Int.mul_assoc,Int.mul_comm 1048576,← Int.mul_assoc]
 omega
theorem pw_nn {X Q:Int} {p:Nat} (h:SmX X Q p) (j:Nat):0≤pwA Q X p j:=by
 induction j with
 | zero => exact h.nn
 | succ j ih => exact Int.ediv_nonneg (Int.mul_nonneg ih h.q.1) (Int.le_of_lt (pow2_pos p))
theorem pw_small {X Q:Int} {p:Nat} (h:SmX X Q p) (j:Nat):pwA Q X p j * 2 ^ (20 * j + 10)≤2 ^ p:=by
  induction j with
  | zero => exact h.lt
  | succ j ih =>
    have hp:=pow2_pos p
    have n:=pw_nn h j
    obtain ⟨q0,q1⟩:=h.q
    have e:(2:Int) ^ (20 * (j + 1) + 10) = 2 ^ (20 * j + 10) * 1048576:=by
      rw [show 20 * (j + 1) + 10 = 20 * j + 10 + 20 by omega,Int.pow_add]
      rfl
    rw [e]
    show pwA Q X p j * Q / 2 ^ p * (2 ^ (20 * j + 10) * 1048576)≤2 ^ p
    have h1:pwA Q X p j * Q / 2 ^ p * 2 ^ p≤pwA Q X p j * Q:=Int.ediv_mul_le _ (Int.ne_of_gt hp)
    have hk:=pow2_pos (20 * j + 10)
    generalize pwA Q X p j * Q / 2 ^ p = r at *
    generalize pwA Q X p j = t at *
    generalize (2:Int) ^ (20 * j + 10) = K at *
    generalize (2:Int) ^ p = P at *
    refine Int.le_of_mul_le_mul_right (a:=P) ?_ hp
    have m1:=Int.mul_le_mul_of_nonneg_right h1 (show 0≤K * 1048576 by omega)
    have m2:=Int.mul_le_mul ih q1 (by omega) (Int.le_of_lt hp)
    have e1:r * P * (K * 1048576) = r * (K * 1048576) * P:=by rw [Int.mul_assoc,Int.mul_comm P,← Int.mul_assoc]
    have e2:t * Q * (K * 1048576) = t * K * (Q * 1048576):=by
      rw [← Int.mul_assoc (t * K),Int.mul_assoc t K Q,Int.mul_comm K Q,← Int.mul_assoc t Q K,← Int.mul_assoc (t * Q)]
    omega
theorem pw_end {X Q:Int} {p:Nat} (h:SmX X Q p) {j:Nat} (hj:pwA Q X p j ≠ 0):20 * j + 10≤p:=by
 have n:=pw_nn h j
 have s:=pw_small h j
 refine Nat.not_lt.1 fun hlt => ?_
 have e:(2:Int) ^ p < 2 ^ (20 * j + 10):=by
  have:(2:Nat) ^ p < 2 ^ (20 * j + 10):=Nat.pow_lt_pow_right (by omega) hlt
  exact_mod_cast this
 have m:=Int.mul_le_mul_of_nonneg_right (show 1≤pwA Q X p j by omega) (Int.le_of_lt (pow2_pos (20 * j + 10)))
 omega
theorem pw_bd {X Q:Int} {p:Nat} (h:SmX X Q p) (j:Nat):dq (pwA Q X p j) (-(p:Int))≤rp (dq X (-(p:Int))) (2 * j + 1)∧rp (dq X (-(p:Int))) (2 * j + 1)≤dq (pwA Q X p j) (-(p:Int)) + 2 * dq 1 (-(p:Int)):=by
  have u:=dq_pos (-(p:Int))
  have sm:∀ (C:Int) (k:Int),0≤C → 0 < k → C * k≤2 ^ p → 0≤dq C (-(p:Int))∧dq C (-(p:Int)) * (k:Rat)≤1:=fun C k c0 k0 hk => by
    have t:=two_cast p
    have e:=Rat.intCast_le_intCast.2 hk
    rw [Rat.intCast_mul] at e
    have m:=Rat.mul_le_mul_of_nonneg_right e (Rat.le_of_lt u)
    rw [t] at m
    refine ⟨by have:=(dq_le_iff 0 C (-(p:Int))).2 c0;rwa [dq_zero] at this,?_⟩
    rw [dq_scale]
    grind
  obtain ⟨x0,x1⟩:=sm X 1024 h.nn (by omega) h.lt
  obtain ⟨q0,q1⟩:=sm Q 1048576 h.q.1 (by omega) h.q.2
  have hq:=dq_fl X X p
  rw [← h.sq] at hq
  induction j with
  | zero =>
    show dq X (-(p:Int))≤1 * dq X (-(p:Int))∧1 * dq X (-(p:Int))≤dq X (-(p:Int)) + 2 * dq 1 (-(p:Int))
    constructor <;> grind
  | succ j ih =>
    obtain ⟨i1,i2⟩:=ih
    have e:rp (dq X (-(p:Int))) (2 * (j + 1) + 1) = rp (dq X (-(p:Int))) (2 * j + 1) * (dq X (-(p:Int)) * dq X (-(p:Int))):=Rat.mul_assoc _ _ _
    have f:=dq_fl (pwA Q X p j) Q p
    obtain ⟨s0,s1⟩:=sm (pwA Q X p j) 1024 (pw_nn h j) (by omega) (by
      have s:=pw_small h j
      have hk:(1024:Int)≤2 ^ (20 * j + 10):=by
        have:(2:Nat) ^ 10≤2 ^ (20 * j + 10):=Nat.pow_le_pow_right (by omega) (by omega)
        exact_mod_cast this
      have m:=Int.mul_le_mul_of_nonneg_left hk (pw_nn h j)
      omega)
    rw [e]
    show dq (pwA Q X p j * Q / 2 ^ p) (-(p:Int))≤_∧_≤dq (pwA Q X p j * Q / 2 ^ p) (-(p:Int)) + _
    have r0:=rp_nn x0 (2 * j + 1)
    have k1:((1024:Int):Rat) = 1024:=rfl
    have k2:((1048576:Int):Rat) = 1048576:=rfl
    rw [k1] at x1 s1
    rw [k2] at q1
    generalize rp (dq X (-(p:Int))) (2 * j + 1) = R at *
    generalize dq X (-(p:Int)) = x at *
    generalize dq Q (-(p:Int)) = q at *
    generalize dq 1 (-(p:Int)) = U at *
    generalize dq (pwA Q X p j) (-(p:Int)) = t at *
    generalize dq (pwA Q X p j * Q / 2 ^ p) (-(p:Int)) = F at *
    clear sm e
    have xx:=Rat.mul_nonneg x0 x0
    have a1:t * q≤R * (x * x):=rmul_le i1 hq.1 q0 r0
    have a2:R * (x * x)≤(t + 2 * U) * (q + U):=rmul_le i2 hq.2 xx (by grind)
    have b1:U * t≤U * (1 / 1024):=Rat.mul_le_mul_of_nonneg_left (by grind) (Rat.le_of_lt u)
    have b2:U * q≤U * (1 / 1048576):=Rat.mul_le_mul_of_nonneg_left (by grind) (Rat.le_of_lt u)
    have hU:U≤1 / 8 ∨ 1 / 8 < U:=by grind
    rcases hU with hU | hU
    · have b3:U * U≤U * (1 / 8):=Rat.mul_le_mul_of_nonneg_left hU (Rat.le_of_lt u)
      constructor <;> grind
    · have b4:R * (x * x)≤(1 / 1024 + 2 * U) * (1 / 1048576):=by
        have xx2:x * x≤1 / 1048576:=by
          have:=rmul_le (show x≤1 / 1024 by grind) (show x≤1 / 1024 by grind) x0 (by grind)
          grind
        exact rmul_le (by grind) xx2 xx (by grind)
      have F0:0≤F + U:=Rat.le_trans (Rat.mul_nonneg s0 q0) f.2
      constructor <;> grind
theorem sm_bd {X Q:Int} {p:Nat} (h:SmX X Q p) (j:Nat):dq (smA Q X p j) (-(p:Int))≤ats j (dq X (-(p:Int))) + 3 * (j:Rat) * dq 1 (-(p:Int))∧ats j (dq X (-(p:Int)))≤dq (smA Q X p j) (-(p:Int)) + 3 * (j:Rat) * dq 1 (-(p:Int)):=by
  have u:=dq_pos (-(p:Int))
  induction j with
  | zero =>
    have z:ats 0 (dq X (-(p:Int))) = 0:=by show (0:Rat) - 0 = 0;exact Rat.sub_self
    rw [z]
    show dq 0 (-(p:Int))≤0 + 3 * ((0:Nat):Rat) * _∧(0:Rat)≤dq 0 (-(p:Int)) + 3 * ((0:Nat):Rat) * _
    rw [dq_zero,show ((0:Nat):Rat) = 0 from rfl]
    constructor <;> grind
  | succ j ih =>
    obtain ⟨i1,i2⟩:=ih
    obtain ⟨b1,b2⟩:=pw_bd h j
    have hk:(0:Int) < 2 * (j:Int) + 1:=by omega
    have f1:=fdiv_le (x:=pwA Q X p j) hk (-(p:Int))
    have f2:dq (pwA Q X p j) (-(p:Int))≤(dq (pwA Q X p j / (2 * (j:Int) + 1)) (-(p:Int)) + dq 1 (-(p:Int))) * ((2 * (j:Int) + 1:Int):Rat):=by
      rw [← dq_succ,dq_scale (pwA Q X p j / (2 * (j:Int) + 1) + 1),dq_scale (pwA Q X p j)]
      have:=Int.le_of_lt (Int.lt_ediv_add_one_mul_self (pwA Q X p j) hk)
      have c:=Rat.intCast_le_intCast.2 this
      rw [Rat.intCast_mul] at c
      have m:=Rat.mul_le_mul_of_nonneg_right c (Rat.le_of_lt u)
      grind
    have ek:((2 * (j:Int) + 1:Int):Rat) = ((2 * j:Nat):Rat) + 1:=by push_cast;rfl
    rw [ek] at f1 f2
    have kn:=nat_nn (2 * j)
    have kp:(0:Rat) < ((2 * j:Nat):Rat) + 1:=by grind
    have dv:rp (dq X (-(p:Int))) (2 * j + 1) / (((2 * j:Nat):Rat) + 1) * (((2 * j:Nat):Rat) + 1) = rp (dq X (-(p:Int))) (2 * j + 1):=Rat.div_mul_cancel (Rat.ne_of_gt kp)
    have ej:((j + 1:Nat):Rat) = (j:Rat) + 1:=by push_cast;rfl
    rw [ej]
    have ea:ats (j + 1) (dq X (-(p:Int))) = ats j (dq X (-(p:Int))) + if evn j then rp (dq X (-(p:Int))) (2 * j + 1) / (((2 * j:Nat):Rat) + 1) else -(rp (dq X (-(p:Int))) (2 * j + 1) / (((2 * j:Nat):Rat) + 1)):=by
      show (sr evn j _ + if evn j then _ else 0) - (sr odn j _ + if (!evn j) = true then _ else 0) = sr evn j _ - sr odn j _ + _
      cases evn j <;> simp only [Bool.not_false,Bool.not_true,if_true,Bool.false_eq_true,if_false] <;> grind
    have es:dq (smA Q X p (j + 1)) (-(p:Int)) = dq (smA Q X p j) (-(p:Int)) + if evn j then dq (pwA Q X p j / (2 * (j:Int) + 1)) (-(p:Int)) else -dq (pwA Q X p j / (2 * (j:Int) + 1)) (-(p:Int)):=by
      show dq (smA Q X p j + if evn j then _ else _) (-(p:Int)) = _
      rw [dq_addI]
      congr 1
      cases evn j <;> simp only [if_true,Bool.false_eq_true,if_false]
      exact dq_neg _ _
    rw [ea,es]
    generalize rp (dq X (-(p:Int))) (2 * j + 1) / (((2 * j:Nat):Rat) + 1) = R at *
    generalize rp (dq X (-(p:Int))) (2 * j + 1) = r at *
    generalize dq (pwA Q X p j / (2 * (j:Int) + 1)) (-(p:Int)) = t at *
    generalize dq (pwA Q X p j) (-(p:Int)) = w at *
    generalize ats j (dq X (-(p:Int))) = A at *
    generalize dq (smA Q X p j) (-(p:Int)) = S at *
    generalize dq 1 (-(p:Int)) = U at *
    generalize ((2 * j:Nat):Rat) = k at *
    generalize (j:Rat) = m at *
    have c1:t≤R:=le_of_mul kp (by rw [dv];grind)
    have c2:R≤t + 3 * U:=by
      refine le_of_mul kp ?_
      rw [dv]
      have:=Rat.mul_nonneg kn (Rat.le_of_lt u)
      grind
    clear ea es dv f1 f2 ek
    split <;> constructor <;> grind
theorem ser_near {X Q:Int} {p n:Nat} (h:SmX X Q p) (hn:pwA Q X p n = 0) {y:Rat} (y0:0 < y) (y1:y≤1 / 2) (h1:dq X (-(p:Int))≤y + dq 1 (-(p:Int))) (h2:y≤dq X (-(p:Int)) + dq 1 (-(p:Int))) :
  LoC (dq (smA Q X p n) (-(p:Int)) - (3 * (n:Rat) + 6) * dq 1 (-(p:Int))) y⁻¹∧UpC y⁻¹ (dq (smA Q X p n) (-(p:Int)) + (3 * (n:Rat) + 6) * dq 1 (-(p:Int))):=by
 have u:=dq_pos (-(p:Int))
 obtain ⟨_,b2⟩:=pw_bd h n
 rw [hn,dq_zero] at b2
 obtain ⟨s1,s2⟩:=sm_bd h n
 have x0:0≤dq X (-(p:Int)):=by have:=(dq_le_iff 0 X (-(p:Int))).2 h.nn;rwa [dq_zero] at this
 have x1:dq X (-(p:Int))≤1 / 4:=by
  have t:=two_cast p
  have e:=Rat.intCast_le_intCast.2 h.lt
  rw [Rat.intCast_mul,show ((1024:Int):Rat) = 1024 from rfl] at e
  have m:=Rat.mul_le_mul_of_nonneg_right e (Rat.le_of_lt u)
  rw [t] at m
  rw [dq_scale] at x0 ⊢
  grind
 exact at_beside n (Rat.le_of_lt u) x0 x1 y0 y1 h1 h2 (by grind) s1 s2

theorem kd_le9 {c d:Rat} (hd:0 < d) (h:d * (d - 2 * c)≤1):kd d≤c:=by
 have e:=kd_eq hd
 refine le_of_mul (c:=2 * d) (by grind) ?_
 rw [e]
 grind
theorem le_kd9 {c d:Rat} (hd:0 < d) (h:1≤d * (d - 2 * c)):c≤kd d:=by
 have e:=kd_eq hd
 refine le_of_mul (c:=2 * d) (by grind) ?_
 rw [e]
 grind
structure SqI (C S:Int) (p:Nat):Prop where
 nn:0≤S
 lo:S * S≤C * C + 2 ^ p * 2 ^ p
 hi:C * C + 2 ^ p * 2 ^ p + 1≤(S + 1) * (S + 1)
theorem sq_int (C:Int) (p:Nat):cutQ (dq C (-(p:Int)) * dq C (-(p:Int)) + 1) (2 * (p:Int)) = C * C + 2 ^ p * 2 ^ p:=by
 have e1:dq C (-(p:Int)) * dq C (-(p:Int)) + 1 = dq (C * C + 2 ^ p * 2 ^ p) (-(2 * (p:Int))):=by
  have h1:=dq_mul C (-(p:Int)) C (-(p:Int))
  have h2:=dq_mul (2 ^ p) (-(p:Int)) (2 ^ p) (-(p:Int))
  have h3:dq (2 ^ p) (-(p:Int)) = 1:=by rw [dq_scale];exact two_cast p
  rw [h3,Rat.mul_one] at h2
  rw [dq_addI,show -(2 * (p:Int)) = -(p:Int) + -(p:Int) by omega,h1,h2]
 rw [e1]
 have:=cut_self (C * C + 2 ^ p * 2 ^ p) (2 * (p:Int))
 exact this
theorem sqi (C:Int) (p:Nat):SqI C (sqR (dq C (-(p:Int)) * dq C (-(p:Int)) + 1) (p:Int)) p:=by
 have hn:(0:Rat)≤dq C (-(p:Int)) * dq C (-(p:Int)) + 1:=by have:=rsq_nn (dq C (-(p:Int)));grind
 have h1:=sqR_le hn (p:Int)
 have h2:=sqR_lt hn (p:Int)
 rw [sq_int] at h1 h2
 exact ⟨sqR_nn _ _,h1,by omega⟩
theorem SqI.rat {C S:Int} {p:Nat} (h:SqI C S p):0≤dq S (-(p:Int))∧dq S (-(p:Int)) * dq S (-(p:Int))≤dq C (-(p:Int)) * dq C (-(p:Int)) + 1∧dq C (-(p:Int)) * dq C (-(p:Int)) + 1≤(dq S (-(p:Int)) + dq 1 (-(p:Int))) * (dq S (-(p:Int)) + dq 1 (-(p:Int))):=by
 have m:∀ x y:Int,x≤y → dq x (-(2 * (p:Int)))≤dq y (-(2 * (p:Int))):=fun x y h => (dq_le_iff _ _ _).2 h
 have e:∀ x y:Int,dq (x * y) (-(2 * (p:Int))) = dq x (-(p:Int)) * dq y (-(p:Int)):=fun x y => by
  rw [show -(2 * (p:Int)) = -(p:Int) + -(p:Int) by omega,dq_mul]
 have h3:dq (2 ^ p) (-(p:Int)) = 1:=by rw [dq_scale];exact two_cast p
 have a:=m _ _ h.lo
 have b:=m _ _ (show C * C + 2 ^ p * 2 ^ p≤(S + 1) * (S + 1) by have:=h.hi;omega)
 rw [dq_addI,e,e,e,h3,Rat.mul_one] at a
 rw [dq_addI,e,e,e,h3,Rat.mul_one,dq_succ] at b
 refine ⟨?_,a,b⟩
 have:=(dq_le_iff 0 S (-(p:Int))).2 h.nn
 rwa [dq_zero] at this
theorem SqI.big {C S:Int} {p:Nat} (h:SqI C S p) (hC:0≤C):C≤S∧2 ^ p≤S∧S≤C + 2 ^ p:=by
 have hp:=pow2_pos p
 have h1:=h.hi
 have h2:=h.lo
 have h3:=h.nn
 generalize (2:Int) ^ p = P at *
 have c0:=Int.mul_nonneg hC hC
 have p0:=Int.mul_pos hp hp
 refine ⟨?_,?_,?_⟩
 ·refine Int.not_lt.1 fun hlt => ?_
  have:=Int.mul_le_mul (show S + 1≤C by omega) (show S + 1≤C by omega) (by omega) hC
  omega
 ·refine Int.not_lt.1 fun hlt => ?_
  have:=Int.mul_le_mul (show S + 1≤P by omega) (show S + 1≤P by omega) (by omega) (by omega)
  omega
 ·refine Int.not_lt.1 fun hlt => ?_
  have:=Int.mul_le_mul (show C + P≤S by omega) (show C + P≤S by omega) (by omega) (by omega)
  have e:(C + P) * (C + P) = C * C + P * P + 2 * (C * P):=by rw [Int.add_mul,Int.mul_add,Int.mul_add,Int.mul_comm P C];omega
  have:=Int.mul_nonneg hC (Int.le_of_lt hp)
  have e2:=Int.mul_le_mul (show C + P + 1≤S by omega) (show C + P + 1≤S by omega) (by omega) (by omega)
  have e3:(C + P + 1) * (C + P + 1) = (C + P) * (C + P) + 2 * (C + P) + 1:=by rw [Int.add_mul,Int.mul_add];omega
  omega
theorem rp2_ge (j:Nat):1≤rp 2 j:=by
 induction j with
 | zero => exact Rat.le_refl
 | succ j ih => show 1≤rp 2 j * 2;grind
theorem rp2_cast (j:Nat):(((2:Int) ^ j:Int):Rat) = rp 2 j:=by
  induction j with
  | zero => rfl
  | succ j ih =>
    rw [Int.pow_succ,Rat.intCast_mul,ih]
    rfl
theorem rp2_11:∀ k,k < 12 → rp 2 k≤2048:=by decide +kernel
structure HvI (p:Nat) (C0:Int) (j:Nat) (C:Int):Prop where
 up:∀ b,UpC (dq C (-(p:Int))) b → UpC (dq C0 (-(p:Int))) (rp 2 j * b)
 lo:∀ a,LoC a (dq C (-(p:Int)) + (2 * rp 2 j - 1) * dq 1 (-(p:Int))) → LoC (rp 2 j * a) (dq C0 (-(p:Int)) + dq 1 (-(p:Int)))
 nn:0≤C
 big:1≤j → (2:Int) ^ (p + j)≤2 * C
theorem HvI.first {p:Nat} {C:Int} (h:0≤C):HvI p C 0 C:=by
 refine ⟨fun b hb => ?_,fun a ha => ?_,h,by omega⟩
 ·show UpC _ (1 * b)
  rwa [Rat.one_mul]
 ·show LoC (1 * a) _
  rw [Rat.one_mul]
  rwa [show (2 * rp 2 0 - 1) * dq 1 (-(p:Int)) = dq 1 (-(p:Int)) by show (2 * 1 - 1) * dq 1 (-(p:Int)) = _;grind] at ha
theorem HvI.step {p j:Nat} {C0 C S:Int} (h:HvI p C0 j C) (hS:SqI C S p):HvI p C0 (j + 1) (C + S):=by
  obtain ⟨s0,s1,s2⟩:=hS.rat
  obtain ⟨b1,b2,b3⟩:=hS.big h.nn
  have u:=dq_pos (-(p:Int))
  have c0:0≤dq C (-(p:Int)):=by have:=(dq_le_iff 0 C (-(p:Int))).2 h.nn;rwa [dq_zero] at this
  have s9:dq C (-(p:Int))≤dq S (-(p:Int)):=(dq_le_iff _ _ _).2 b1
  have one:1≤dq S (-(p:Int)):=by
    have:=(dq_le_iff _ _ (-(p:Int))).2 b2
    rwa [dq_scale,two_cast] at this
  have r1:=rp2_ge j
  refine ⟨fun b hb => ?_,fun a ha => ?_,by have:=h.nn;have:=hS.nn;omega,fun _ => ?_⟩
  · rw [dq_addI] at hb
    have d:=hb.dbl (c:=dq C (-(p:Int))) (by grind) (kd_le9 (by grind) (by grind))
    have:=h.up _ d
    rwa [show rp 2 j * (2 * b) = rp 2 (j + 1) * b by show _ = rp 2 j * 2 * b;grind] at this
  · rw [dq_addI,show 2 * rp 2 (j + 1) - 1 = 2 * (2 * rp 2 j - 1) + 1 by show 2 * (rp 2 j * 2) - 1 = _;grind] at ha
    have hE:0≤(2 * rp 2 j - 1) * dq 1 (-(p:Int)):=Rat.mul_nonneg (by grind) (Rat.le_of_lt u)
    have d:=ha.dbl (c:=dq C (-(p:Int)) + (2 * rp 2 j - 1) * dq 1 (-(p:Int))) (by
      generalize 2 * rp 2 j - 1 = E at *
      have:(2 * E + 1) * dq 1 (-(p:Int)) = 2 * (E * dq 1 (-(p:Int))) + dq 1 (-(p:Int)):=by grind
      rw [this];grind) (le_kd9 (by
      generalize 2 * rp 2 j - 1 = E at *
      have:(2 * E + 1) * dq 1 (-(p:Int)) = 2 * (E * dq 1 (-(p:Int))) + dq 1 (-(p:Int)):=by grind
      rw [this];grind) (by
      generalize 2 * rp 2 j - 1 = E at *
      have e1:(2 * E + 1) * dq 1 (-(p:Int)) = 2 * (E * dq 1 (-(p:Int))) + dq 1 (-(p:Int)):=by grind
      rw [e1]
      generalize E * dq 1 (-(p:Int)) = e at *
      generalize dq C (-(p:Int)) = c at *
      generalize dq S (-(p:Int)) = s at *
      generalize dq 1 (-(p:Int)) = U at *
      clear ha e1 r1
      have m:=Rat.mul_nonneg hE (show 0≤s + U - c by grind)
      grind))
    have:=h.lo _ d
    rwa [show rp 2 j * (2 * a) = rp 2 (j + 1) * a by show _ = rp 2 j * 2 * a;grind] at this
  · have e:(2:Int) ^ (p + (j + 1)) = 2 ^ (p + j) * 2:=by rw [← Nat.add_assoc,Int.pow_succ]
    rw [e]
    cases j with
    | zero =>
      have:=h.nn
      show 2 ^ p * 2≤_
      omega
    | succ j =>
      have:=h.big (by omega)
      omega
theorem HvI.le {p j:Nat} {C0 C:Int} (h:HvI p C0 j C) (hC:C < 1024 * 2 ^ p):j≤10:=by
 refine Nat.not_lt.1 fun hlt => ?_
 have b:=h.big (by omega)
 have e:(2:Int) ^ (p + 11)≤2 ^ (p + j):=by
  have:(2:Nat) ^ (p + 11)≤2 ^ (p + j):=Nat.pow_le_pow_right (by omega) (by omega)
  exact_mod_cast this
 rw [Int.pow_add] at e
 have:(2:Int) ^ 11 = 2048:=rfl
 omega
def AgI (p:Nat) (C0 Z:Int):Prop:=LoC (dq (Z - 2097152) (-(p:Int))) (dq C0 (-(p:Int)) + dq 1 (-(p:Int)))∧UpC (dq C0 (-(p:Int))) (dq (Z + 2097152) (-(p:Int)))
theorem dq_sub9 (a b e:Int):dq (a - b) e = dq a e - dq b e:=by rw [Int.sub_eq_add_neg,dq_addI,dq_neg,Rat.sub_eq_add_neg]
theorem ang_end {p k n:Nat} {C0 C X Q:Int} (h:HvI p C0 k C) (hk:k≤11) (hC:1024 * 2 ^ p≤C) (hX:SmX X Q p) (x1:dq X (-(p:Int)) * dq C (-(p:Int))≤1) (x2:1≤(dq X (-(p:Int)) + dq 1 (-(p:Int))) * dq C (-(p:Int))) (hn:pwA Q X p n = 0) (n3:n≤300):AgI p C0 (smA Q X p n * 2 ^ k):=by
 have u:=dq_pos (-(p:Int))
 have hc:1024≤dq C (-(p:Int)):=by
  have:=(dq_le_iff _ _ (-(p:Int))).2 hC
  rw [dq_scale (1024 * 2 ^ p),Rat.intCast_mul,Rat.mul_assoc,two_cast,Rat.mul_one] at this
  exact this
 have x0:0≤dq X (-(p:Int)):=by have:=(dq_le_iff 0 X (-(p:Int))).2 hX.nn;rwa [dq_zero] at this
 have r1:=rp2_ge k
 have r2:=rp2_11 k (by omega)
 have n1:3 * (n:Rat) + 6≤1024:=by
  have:(n:Rat)≤300:=by exact_mod_cast n3
  grind
 have n0:=nat_nn n
 have ez:dq (smA Q X p n * 2 ^ k) (-(p:Int)) = rp 2 k * dq (smA Q X p n) (-(p:Int)):=by
  rw [dq_scale,dq_scale (smA Q X p n),Rat.intCast_mul,rp2_cast]
  grind
 have eM:dq 2097152 (-(p:Int)) = 2097152 * dq 1 (-(p:Int)):=dq_scale _ _
 have cost:rp 2 k * ((3 * (n:Rat) + 6) * dq 1 (-(p:Int)))≤2097152 * dq 1 (-(p:Int)):=by
  have m1:=rmul_le r2 n1 (by grind) (by grind)
  have m2:=Rat.mul_le_mul_of_nonneg_right m1 (Rat.le_of_lt u)
  grind
 have inv:∀ c y:Rat,0 < c → y * c≤1 → y≤c⁻¹:=fun c y c0 h => by
  refine le_of_mul c0 ?_
  rw [Rat.inv_mul_cancel _ (Rat.ne_of_gt c0)]
  exact h
 have inv2:∀ c y:Rat,0 < c → 1≤y * c → c⁻¹≤y:=fun c y c0 h => by
  refine le_of_mul c0 ?_
  rw [Rat.inv_mul_cancel _ (Rat.ne_of_gt c0)]
  exact h
 have s9:=@ser_near X Q p n hX hn
 refine ⟨?_,?_⟩
 ·-- below: at the cotangent C + e
  have hE0:0≤(2 * rp 2 k - 1) * dq 1 (-(p:Int)):=Rat.mul_nonneg (by grind) (Rat.le_of_lt u)
  have hE1:(2 * rp 2 k - 1) * dq 1 (-(p:Int))≤4095 * dq 1 (-(p:Int)):=Rat.mul_le_mul_of_nonneg_right (by grind) (Rat.le_of_lt u)
  have l:=h.lo (dq (smA Q X p n) (-(p:Int)) - (3 * (n:Rat) + 6) * dq 1 (-(p:Int)))
  generalize (2 * rp 2 k - 1) * dq 1 (-(p:Int)) = e at *
  have cp:0 < dq C (-(p:Int)) + e:=by grind
  have y0:0 < (dq C (-(p:Int)) + e)⁻¹:=Rat.inv_pos.2 cp
  have y1:(dq C (-(p:Int)) + e)⁻¹≤1 / 2:=inv2 _ _ cp (by grind)
  have h1:dq X (-(p:Int))≤(dq C (-(p:Int)) + e)⁻¹ + dq 1 (-(p:Int)):=by
   have:=inv (dq C (-(p:Int)) + e) (dq X (-(p:Int)) - dq 1 (-(p:Int))) cp (by
    have xs:dq X (-(p:Int))≤1 / 1024:=by
     have m:=Rat.mul_le_mul_of_nonneg_left hc x0
     grind
    have m1:dq X (-(p:Int)) * e≤1 / 1024 * (4095 * dq 1 (-(p:Int))):=rmul_le xs hE1 hE0 (by grind)
    have m2:=Rat.mul_le_mul_of_nonneg_left hc (Rat.le_of_lt u)
    have m3:=Rat.mul_nonneg (Rat.le_of_lt u) hE0
    clear l y0 y1 inv inv2 s9
    grind)
   grind
  have h2:(dq C (-(p:Int)) + e)⁻¹≤dq X (-(p:Int)) + dq 1 (-(p:Int)):=inv2 _ _ cp (by
   have:=Rat.mul_nonneg (show 0≤dq X (-(p:Int)) + dq 1 (-(p:Int)) by grind) hE0
   grind)
  have t:=(s9 y0 y1 h1 h2).1
  rw [Rat.inv_inv] at t
  have l2:=l t
  refine l2.mono ?_ Rat.le_refl
  rw [dq_sub9,ez,eM]
  clear l l2 t s9 inv inv2
  grind
 ·have cp:0 < dq C (-(p:Int)):=by grind
  have y0:0 < (dq C (-(p:Int)))⁻¹:=Rat.inv_pos.2 cp
  have y1:(dq C (-(p:Int)))⁻¹≤1 / 2:=inv2 _ _ cp (by grind)
  have h1:dq X (-(p:Int))≤(dq C (-(p:Int)))⁻¹ + dq 1 (-(p:Int)):=by
   have:=inv _ _ cp x1
   grind
  have h2:(dq C (-(p:Int)))⁻¹≤dq X (-(p:Int)) + dq 1 (-(p:Int)):=inv2 _ _ cp x2
  have t:=(s9 y0 y1 h1 h2).2
  rw [Rat.inv_inv] at t
  refine (h.up _ t).mono ?_ Rat.le_refl
  rw [dq_addI,ez,eM]
  clear t s9 inv inv2
  grind
def AtB (p:Nat) (Z:Int) (x:Rat):Prop:=AtL (dq (Z - 2097152) (-(p:Int))) x∧AtU x (dq (Z + 2097152) (-(p:Int)))
theorem AtB.neg {p:Nat} {Z:Int} {x:Rat} (h:AtB p Z x):AtB p (-Z) (-x):=by
 refine ⟨?_,?_⟩
 ·have:=h.2.neg
  rwa [← dq_neg,show -(Z + 2097152) = -Z - 2097152 by omega] at this
 ·have:=h.1.neg
  rwa [← dq_neg,show -(Z - 2097152) = -Z + 2097152 by omega] at this
theorem AgI.at {p:Nat} {C0 Z:Int} {x:Rat} (h:AgI p C0 Z) (hx:0 < x) (h1:dq C0 (-(p:Int))≤x⁻¹) (h2:x⁻¹≤dq C0 (-(p:Int)) + dq 1 (-(p:Int))):AtB p Z x:=by
 refine ⟨Or.inl ⟨hx,h.1.mono Rat.le_refl h2⟩,Or.inr (Or.inr ⟨by grind,?_⟩)⟩
 rw [Rat.neg_neg,Rat.neg_neg]
 exact h.2.mono Rat.le_refl h1
theorem sm_zero (Q:Int) (p n:Nat):smA Q 0 p n = 0:=by
  have hz:∀ j,pwA Q 0 p j = 0:=fun j => by
    induction j with
    | zero => rfl
    | succ j ih => show pwA Q 0 p j * Q / 2 ^ p = 0;rw [ih];simp
  induction n with
  | zero => rfl
  | succ n ih =>
    show smA Q 0 p n + (if evn n then pwA Q 0 p n / (2 * (n:Int) + 1) else -(pwA Q 0 p n / (2 * (n:Int) + 1))) = 0
    rw [ih,hz]
    simp
theorem small_at {X Q:Int} {p n:Nat} (h:SmX X Q p) (hn:pwA Q X p n = 0) (n3:n≤300) {x:Rat} (x0:0≤x) (x1:x≤1 / 1024) (h1:dq X (-(p:Int))≤x) (h2:x≤dq X (-(p:Int)) + dq 1 (-(p:Int))):AtB p (smA Q X p n) x:=by
 have u:=dq_pos (-(p:Int))
 have n1:3 * (n:Rat) + 6≤1024:=by
  have:(n:Rat)≤300:=by exact_mod_cast n3
  grind
 have n0:=nat_nn n
 have eM:dq 2097152 (-(p:Int)) = 2097152 * dq 1 (-(p:Int)):=dq_scale _ _
 have cost:=Rat.mul_le_mul_of_nonneg_right n1 (Rat.le_of_lt u)
 by_cases hx:x = 0
 ·have hX:X = 0:=by
   have a:=h.nn
   have b:=(dq_le_iff X 0 (-(p:Int))).1 (by rw [dq_zero,← hx];exact h1)
   omega
  subst hX
  rw [sm_zero,hx]
  have e1:dq (0 - 2097152) (-(p:Int))≤0:=by rw [dq_sub9,dq_zero,eM];grind
  have e2:0≤dq (0 + 2097152) (-(p:Int)):=by rw [Int.zero_add,eM];grind
  exact ⟨Or.inr (Or.inl ⟨rfl,e1⟩),Or.inr (Or.inl ⟨by rw [Rat.neg_zero],by grind⟩)⟩
 ·have hx0:0 < x:=by grind
  obtain ⟨l,k⟩:=ser_near h hn hx0 (by grind) (by grind) h2
  refine ⟨Or.inl ⟨hx0,l.mono ?_ Rat.le_refl⟩,Or.inr (Or.inr ⟨by grind,?_⟩)⟩
  ·rw [dq_sub9,eM]
   clear l k
   grind
  ·rw [Rat.neg_neg,Rat.neg_neg]
   refine k.mono ?_ Rat.le_refl
   rw [dq_addI,eM]
   clear l k
   grind
def EaA (k:Nat) (a:Int) (x:Rat):Prop:=AtL (dq a (-(k:Int))) x∧AtU x (dq a (-(k:Int)) + 2 * dq 1 (-(k:Int)))
def EaB (k:Nat) (b:Int) (x:Rat):Prop:=AtL (dq b (-(k:Int)) - 2 * dq 1 (-(k:Int))) x∧AtU x (dq b (-(k:Int)))
def atLo (Z:Int):Int:=(Z - 2097152) / 2 ^ 32
def atHi (Z:Int):Int := -(-(Z + 2097152) / 2 ^ 32)
theorem dq_32 {k p:Nat} (hp:p = k + 32) (y:Int):dq y (-(k:Int)) = dq (y * 2 ^ 32) (-(p:Int)):=by
 refine dq_eq (F := -(p:Int)) ?_ (by omega) (by omega)
 rw [show (-(k:Int) - -(p:Int)).toNat = 32 by omega,show (-(p:Int) - -(p:Int)).toNat = 0 by omega]
 simp
theorem atLo_en {Z:Int} {k p:Nat} {x:Rat} (hp:p = k + 32) (h:AtB p Z x):EaA k (atLo Z) x:=by
 unfold atLo
 refine ⟨h.1.mono ?_,h.2.mono ?_⟩
 ·rw [dq_32 hp]
  exact (dq_le_iff _ _ _).2 (by omega)
 ·rw [dq_32 hp,dq_32 hp 1,show 2 * dq (1 * 2 ^ 32) (-(p:Int)) = dq (2 * 2 ^ 32) (-(p:Int)) by rw [dq_scale,dq_scale (2 * 2 ^ 32),Rat.intCast_mul,Rat.intCast_mul];grind,← dq_addI]
  exact (dq_le_iff _ _ _).2 (by omega)
theorem atHi_en {Z:Int} {k p:Nat} {x:Rat} (hp:p = k + 32) (h:AtB p Z x):EaB k (atHi Z) x:=by
 unfold atHi
 refine ⟨h.1.mono ?_,h.2.mono ?_⟩
 ·rw [dq_32 hp,dq_32 hp 1,show 2 * dq (1 * 2 ^ 32) (-(p:Int)) = dq (2 * 2 ^ 32) (-(p:Int)) by rw [dq_scale,dq_scale (2 * 2 ^ 32),Rat.intCast_mul,Rat.intCast_mul];grind,← dq_sub9]
  exact (dq_le_iff _ _ _).2 (by omega)
 ·rw [dq_32 hp]
  exact (dq_le_iff _ _ _).2 (by omega)
theorem pw_le {X Q:Int} {p:Nat} (h:SmX X Q p) (j:Nat):pwA Q X p j≤X:=by
  induction j with
  | zero => exact Int.le_refl _
  | succ j ih =>
    have hp:=pow2_pos p
    have n:=pw_nn h j
    obtain ⟨q0,q1⟩:=h.q
    refine Int.le_trans ?_ ih
    show pwA Q X p j * Q / 2 ^ p≤pwA Q X p j
    refine Int.ediv_le_of_le_mul hp ?_
    exact Int.mul_le_mul_of_nonneg_left (by omega) n
theorem sm_abs {X Q:Int} {p:Nat} (h:SmX X Q p) (n:Nat):(smA Q X p n).natAbs≤n * X.natAbs:=by
  induction n with
  | zero => exact Nat.zero_le _
  | succ n ih =>
    have e:smA Q X p (n + 1) = smA Q X p n + (if evn n then pwA Q X p n / (2 * (n:Int) + 1) else -(pwA Q X p n / (2 * (n:Int) + 1))):=rfl
    have a:=pw_nn h n
    have b:=pw_le h n
    have c:pwA Q X p n / (2 * (n:Int) + 1)≤pwA Q X p n:=Int.ediv_le_self _ a
    have d:0≤pwA Q X p n / (2 * (n:Int) + 1):=Int.ediv_nonneg a (by omega)
    have m:(n + 1) * X.natAbs = n * X.natAbs + X.natAbs:=by rw [Nat.add_mul,Nat.one_mul]
    rw [e,m]
    split <;> omega
theorem sm_ab {X Q:Int} {p:Nat} (h:SmX X Q p) {n:Nat} (n3:n≤300):AbP (smA Q X p n) p:=by
 have a:=sm_abs h n
 have b:=h.lt
 have c:=h.nn
 have m:n * X.natAbs≤300 * X.natAbs:=Nat.mul_le_mul_right _ n3
 have e:((2 ^ p:Nat):Int) = 2 ^ p:=by push_cast;rfl
 unfold AbP
 omega


end Go.Proofs.YtiddbhhhmeopeaaGreatDoor
