/- Joined: CoA, CoM, RefCoA, RefExA, RefExN, CpM, CpN, ExM, ExA, ExZ, ExP, ExY, NrA, LnM, LnN, LnS, LnT, LnP, RdA, RdB, LnQ (what the law leans on). -/
import Derived.Test.YtmgbjldogggpcaaGreatDoorBaseIL
import Derived.Test.YtmgbjldogggpcaaGreatDoorBaseJL
import Derived.Test.YtmgbjldogggpcaaGreatDoorBaseEL
import Derived.Test.YtmgbjldogggpcaaGreatDoorBaseML
import Derived.Test.YtmgbjldogggpcaaGreatDoorBaseVL
import Derived.Test.YtmgbjldogggpcaaGreatDoorBaseSL
import Derived.Test.YtmgbjldogggpcaaGreatDoorBaseWL
import Derived.Test.YtmgbjldogggpcaaGreatDoorRefGrAL
import Derived.Test.YtmgbjldogggpcaaGreatDoorRefGrBL
import Derived.Test.YtmgbjldogggpcaaGreatDoorBaseXL
import Derived.Deep.DrawnRows
import Derived.Deep.RegionHeld3
namespace Go.Proofs.YtmgbjldogggpcaaGreatDoor
set_option maxHeartbeats 64000000
open Go.RowKit
set_option linter.unusedVariables false
set_option linter.unusedSimpArgs false
set_option maxRecDepth 100000
attribute [local go_sem ↓] Go.wp_at_zero Go.wp_at_succ
def IsS (w : World) (v : Value) (a b : Int) : Prop:=∃ s t, v = .agg #[.bool (ng a), s, .bool (ng b), t] ∧ IsN w s a.natAbs ∧ IsN w t b.natAbs
theorem IsS.mono {w w' : World} {v : Value} {a b : Int} (h : IsS w v a b) (hb : Below w.heap.size w w') : IsS w' v a b:=by
 obtain ⟨s, t, r, hs, ht⟩:=h
 exact ⟨s, t, r, hs.mono hb, ht.mono hb⟩
theorem IsS.form {w : World} {v : Value} {a b : Int} (h : IsS w v a b) : ∃ A c B d, v = .agg #[.bool (ng a), .slice A (zl a) c, .bool (ng b), .slice B (zl b) d] ∧ IsN w (.slice A (zl a) c) a.natAbs ∧ IsN w (.slice B (zl b) d) b.natAbs:=by
 obtain ⟨s, t, r, hs, ht⟩:=h
 obtain ⟨A, c, e1⟩:=hs.form
 obtain ⟨B, d, e2⟩:=ht.form
 subst e1 e2
 exact ⟨A, c, B, d, r, hs, ht⟩
theorem isS_n {w : World} {s t : Value} {a b : Int} (h : IsN w s a.natAbs) (h2 : IsN w t b.natAbs) : IsS w (.agg #[.bool (ng a), s, .bool (ng b), t]) a b:=⟨s, t, rfl, h, h2⟩
theorem plain4 (b : Bool) (A : Option Addr) (p c : Nat) (b' : Bool) (B : Option Addr) (q d : Nat) : Plain #[.bool b, .slice A p c, .bool b', .slice B q d]:=fun j x => by
 match j with
 | 0 => simp
 | 1 => simp
 | 2 => simp
 | 3 => simp
 | j + 4 => simp
def put4 (w : World) (g : Nat) (b : Bool) (s : Value) (b' : Bool) (t : Value) : World:=(((w.setCell ⟨g, 0, none⟩ (.bool b)).setCell ⟨g, 1, none⟩ s).setCell ⟨g, 2, none⟩ (.bool b')).setCell ⟨g, 3, none⟩ t
section
variable {w0 w : World} {ns : List (Value × Nat)} {zs : List (Value × Int)} {qs : List (Value × Int × Nat)} {bs : List (Nat × TypeId × Array Value)}
theorem Lq.varS (h : Lq w0 w ns zs qs bs) (g : Nat) (hg : g = w.heap.size) (b : Bool) (A : Option Addr) (p c : Nat) (b' : Bool) (B : Option Addr) (q d : Nat) : Lq w0 (w.alloc (.cells #[.bool b, .slice A p c, .bool b', .slice B q d] 79)) ns zs qs ((g, 79, #[.bool b, .slice A p c, .bool b', .slice B q d]) :: bs):=h.var g hg _ _ (plain4 _ _ _ _ _ _ _ _)
theorem Lq.putS {g : Nat} {b b' : Bool} {s t : Value} (h : Lq w0 w ns zs qs ((g, 79, #[.bool b, s, .bool b', t]) :: bs)) (hg : w0.heap.size ≤ g) (hd : ∀ p ∈ bs, p.1 ≠ g) (b1 : Bool) (A : Option Addr) (p c : Nat) (b2 : Bool) (B : Option Addr) (q d : Nat) :
  Lq w0 (put4 w g b1 (.slice A p c) b2 (.slice B q d)) ns zs qs ((g, 79, #[.bool b1, .slice A p c, .bool b2, .slice B q d]) :: bs):=
 (((h.set hg hd 0 (.bool b1) (by intro x e; cases e)).set hg hd 1 (.slice A p c) (by intro x e; cases e)).set hg hd 2 (.bool b2) (by intro x e; cases e)).set hg hd 3 (.slice B q d) (by intro x e; cases e)
theorem Dq.boxS (h : Dq w0 w ns zs qs bs) (b : Bool) (A : Option Addr) (p c : Nat) (b' : Bool) (B : Option Addr) (q d : Nat) : Dq w0 (w.alloc (.cells #[.bool b, .slice A p c, .bool b', .slice B q d] 79)) ns zs qs ((w.heap.size, 79, #[.bool b, .slice A p c, .bool b', .slice B q d]) :: bs):=by
 refine ⟨h.lq.varS w.heap.size rfl b A p c b' B q d, ?_, fun p hp => ?_⟩
 ·rw [List.map_cons, List.nodup_cons]
  refine ⟨fun hm => ?_, h.nodup⟩
  obtain ⟨p, hp, e⟩:=List.mem_map.1 hm
  have:=(h.lq.bs p hp).lt
  omega
 ·rcases List.mem_cons.1 hp with rfl | hp
  ·exact h.lq.below.size
  ·exact h.ge p hp
end
theorem Var.c40 {w : World} {g : Nat} {ty : TypeId} {x0 x1 x2 x3 : Value} (h : Var w g ty #[x0, x1, x2, x3]) : w.cell? ⟨g, 0, none⟩ = some x0:=h.cell 0
theorem Var.c41 {w : World} {g : Nat} {ty : TypeId} {x0 x1 x2 x3 : Value} (h : Var w g ty #[x0, x1, x2, x3]) : w.cell? ⟨g, 1, none⟩ = some x1:=h.cell 1
theorem Var.c42 {w : World} {g : Nat} {ty : TypeId} {x0 x1 x2 x3 : Value} (h : Var w g ty #[x0, x1, x2, x3]) : w.cell? ⟨g, 2, none⟩ = some x2:=h.cell 2
theorem Var.c43 {w : World} {g : Nat} {ty : TypeId} {x0 x1 x2 x3 : Value} (h : Var w g ty #[x0, x1, x2, x3]) : w.cell? ⟨g, 3, none⟩ = some x3:=h.cell 3
def RetSp (w : World) (a b : Int) (en : Ending) (w' : World) : Prop:=∃ v, en = .returned v ∧ IsS w' v a b ∧ Below w.heap.size w w'
def cdv (x n : Int) : Int := -(-x / n)
theorem cdv_le {x n k : Int} (hn : 0 < n) : cdv x n ≤ k ↔ x ≤ k * n:=by
 unfold cdv
 have h : -k ≤ -x / n ↔ -k * n ≤ -x:=Int.le_ediv_iff_mul_le hn
 rw [Int.neg_mul] at h
 omega
theorem le_cdv {x n : Int} (hn : 0 < n) : x ≤ cdv x n * n:=(cdv_le hn).1 (Int.le_refl _)
theorem div_cdv {x y n : Int} (hn : 0 < n) (h : x ≤ y) : x / n ≤ cdv y n:=by
 have h1:=Int.ediv_mul_le x (show n ≠ 0 by omega)
 have h2:=le_cdv (x:=y) hn
 exact Int.le_of_mul_le_mul_right (Int.le_trans h1 (Int.le_trans h h2)) hn
theorem cdv_one (x : Int) : cdv x 1 = x:=by unfold cdv; simp
def tnB (a b : Int) : Bool:=decide (a.natAbs ≤ 1) && decide (b.natAbs ≤ 1)
def AbP (x : Int) (j : Nat) : Prop:=x.natAbs ≤ 2 ^ j
theorem AbP.zl {x : Int} {j : Nat} (h : AbP x j) : zl x ≤ j / 32 + 1:=Nat.le_trans (len_mono h) (len_two j)
theorem AbP.up {x : Int} {j k : Nat} (h : AbP x j) (hk : j ≤ k) : AbP x k:=Nat.le_trans h (Nat.pow_le_pow_right (by omega) hk)
theorem AbP.add {x y : Int} {j : Nat} (h1 : AbP x j) (h2 : AbP y j) : AbP (x + y) (j + 1):=by
 unfold AbP at *
 rw [Nat.pow_succ]
 omega
theorem AbP.neg {x : Int} {j : Nat} (h : AbP x j) : AbP (-x) j:=by
 unfold AbP at *
 rw [Int.natAbs_neg]; exact h
theorem AbP.zero (j : Nat) : AbP 0 j:=Nat.zero_le _
theorem AbP.mul {x y : Int} {j k : Nat} (h1 : AbP x j) (h2 : AbP y k) : AbP (x * y) (j + k):=by
 unfold AbP at *
 rw [Int.natAbs_mul, Nat.pow_add]
 exact Nat.mul_le_mul h1 h2
def Tm (a b : Int) (f : Nat) : Prop:=0 ≤ a ∧ a ≤ b ∧ b ≤ ((2 ^ f : Nat) : Int)
theorem Tm.abs {a b : Int} {f : Nat} (h : Tm a b f) : AbP a f ∧ AbP b f:=by
 unfold Tm at h; unfold AbP
 obtain ⟨P, hP⟩ : ∃ P : Nat, 2 ^ f = P:=⟨_, rfl⟩
 rw [hP] at h ⊢
 omega
theorem Tm.up {a b : Int} {f g : Nat} (h : Tm a b f) (hg : f ≤ g) : Tm a b g:=by
 have:=Nat.pow_le_pow_right (n:=2) (by omega) hg
 unfold Tm at *
 obtain ⟨P, hP⟩ : ∃ P : Nat, 2 ^ f = P:=⟨_, rfl⟩
 obtain ⟨Q, hQ⟩ : ∃ P : Nat, 2 ^ g = P:=⟨_, rfl⟩
 rw [hP] at this h
 rw [hQ] at this ⊢
 omega
theorem Tm.low {a b n : Int} {f : Nat} (hn : 0 < n) (h : Tm a b f) : Tm (a / n) (cdv b n) f:=by
 refine ⟨Int.ediv_nonneg h.1 (by omega), div_cdv hn h.2.1, (cdv_le hn).2 (Int.le_trans h.2.2 ?_)⟩
 have h0 : (0 : Int) ≤ ((2 ^ f : Nat) : Int):=Int.natCast_nonneg _
 have:=Int.mul_le_mul_of_nonneg_left (show (1 : Int) ≤ n by omega) h0
 rwa [Int.mul_one] at this
theorem Tm.half {a b n : Int} {f : Nat} (hn : 2 ≤ n) (h : Tm a b (f + 1)) : Tm (a / n) (cdv b n) f:=by
 refine ⟨Int.ediv_nonneg h.1 (by omega), div_cdv (by omega) h.2.1, (cdv_le (by omega)).2 (Int.le_trans h.2.2 ?_)⟩
 have h0 : (0 : Int) ≤ ((2 ^ f : Nat) : Int):=Int.natCast_nonneg _
 have:=Int.mul_le_mul_of_nonneg_left hn h0
 rw [Nat.pow_succ]
 omega
theorem Tm.pos {a b : Int} {f : Nat} (h : Tm a b f) (ht : tnB a b = false) : ∃ g, f = g + 1:=by
  match f with
  | g + 1 => exact ⟨g, rfl⟩
  | 0 =>
    have e : ((2 ^ 0 : Nat) : Int) = 1:=rfl
    obtain ⟨h0, h1, h2⟩:=h
    rw [e] at h2
    unfold tnB at ht
    rw [decide_eq_true (show a.natAbs ≤ 1 by omega), decide_eq_true (show b.natAbs ≤ 1 by omega)] at ht
    cases ht
theorem tm_one (v : Nat) : Tm (2 ^ v) (2 ^ v) v:=by
 have e : ((2 ^ v : Nat) : Int) = 2 ^ v:=by simp
 have:=pow2_pos v
 unfold Tm
 omega
def lnR : Nat → Nat → Int → Int → Int → Int → Int × Int
 | 0, _, _, _, s, u => (s, u)
 | f + 1, k, a, b, s, u => if tnB a b then (s, u) else lnR f (k + 1) (a / 9) (cdv b 9) (s + a / (2 * k + 1)) (u + cdv b (2 * k + 1))
theorem lnR_end {f k : Nat} {a b s u : Int} (h : tnB a b = true) : lnR f k a b s u = (s, u):=by
 cases f <;> simp [lnR, h]
def SeI (v f k : Nat) (a b s u : Int) : Prop:=Tm a b f ∧ (f ≤ v ∧ f + k ≤ v + 3) ∧ AbP s (v + k) ∧ AbP u (v + k)
theorem SeI.sizes {v f k : Nat} {a b s u : Int} (h : SeI v f k a b s u) (hv : v ≤ 10000) : zl a ≤ 400 ∧ zl b ≤ 400 ∧ zl s ≤ 700 ∧ zl u ≤ 700 ∧ a ≤ b ∧ k ≤ 10003:=by
 obtain ⟨h1, h2, h3, h4⟩:=h
 have x1:=(h1.abs.1).zl
 have x2:=(h1.abs.2).zl
 have x3:=h3.zl
 have x4:=h4.zl
 have x5:=h1.2.1
 omega
theorem ln_step {v f k : Nat} {a b s u : Int} (h : SeI v f k a b s u) (ht : tnB a b = false) : ∃ g, f = g + 1 ∧
  Tm (a / (2 * k + 1)) (cdv b (2 * k + 1)) (v + 3) ∧
  SeI v g (k + 1) (a / 9) (cdv b 9) (s + a / (2 * k + 1)) (u + cdv b (2 * k + 1)) ∧ lnR (g + 1) k a b s u = lnR g (k + 1) (a / 9) (cdv b 9) (s + a / (2 * k + 1)) (u + cdv b (2 * k + 1)):=by
 obtain ⟨h1, h2, h3, h4⟩:=h
 obtain ⟨g, rfl⟩:=h1.pos ht
 have hx:=h1.low (n:=2 * (k : Int) + 1) (by omega)
 have hz:=h1.half (n:=9) (by omega)
 have e1:=hx.abs.1.up (show g + 1 ≤ v + k by omega)
 have e2:=hx.abs.2.up (show g + 1 ≤ v + k by omega)
 refine ⟨g, rfl, hx.up (by omega), ⟨hz, by omega, h3.add e1, h4.add e2⟩, ?_⟩
 rw [lnR, ht, if_neg (by simp)]
def lnS (v : Nat) : Int × Int:=lnR v 0 (2 ^ v / 3) (cdv (2 ^ v) 3) 0 0
def lnL (v : Nat) : Int:=((lnS v).1 - 2) * 2
def lnH (v : Nat) : Int:=((lnS v).2 + 2) * 2
theorem lnR_abs {v : Nat} : ∀ (f k : Nat) (a b s u : Int), SeI v f k a b s u → AbP (lnR f k a b s u).1 (2 * v + 3) ∧ AbP (lnR f k a b s u).2 (2 * v + 3)
  | f, k, a, b, s, u, h => by
    cases ht : tnB a b
    · obtain ⟨g, rfl, _, h1, h2⟩:=ln_step h ht
      rw [h2]
      exact lnR_abs g _ _ _ _ _ h1
    · rw [lnR_end ht]
      obtain ⟨_, h2, h3, h4⟩:=h
      exact ⟨h3.up (by omega), h4.up (by omega)⟩
theorem at_first {n : Int} (hn : 2 ≤ n) (v : Nat) : SeI v v 0 (2 ^ v / n) (cdv (2 ^ v) n) 0 0:=⟨(tm_one v).low (by omega), by omega, AbP.zero _, AbP.zero _⟩
theorem isZ_s {w : World} {s : Value} {z : Int} (h : IsN w s z.natAbs) : IsZ w (.agg #[.bool (ng z), s]) z:=⟨s, rfl, h⟩

theorem s13add_any (a b a2 b2 : Int) (vx vy : Value) (w : World) (hx : IsS w vx a b) (hy : IsS w vy a2 b2) (la : zl a ≤ 10000) (lb : zl b ≤ 10000) (la2 : zl a2 ≤ 10000) (lb2 : zl b2 ≤ 10000) :
  Calls Tryz.prog 68 #[vx, vy] w (RetSp w (a + a2) (b + b2)):=by
 obtain ⟨A, c, B, d, rfl, hn1, hn2⟩:=hx.form
 obtain ⟨A2, c2, B2, d2, rfl, hn3, hn4⟩:=hy.form
 have L0:=((((Lq.mk0 w).n hn4).n hn3).n hn2).n hn1
 have h1:=fun v u W h k => rzadd_any a a2 v u W h k (by omega) (by omega)
 have h2:=fun v u W h k => rzadd_any b b2 v u W h k (by omega) (by omega)
 obtain ⟨x, hx⟩:=nm9 (a + a2)
 obtain ⟨y, hy⟩:=nm9 (b + b2)
 rw [hx] at h1 ⊢
 rw [hy] at h2 ⊢
 have H1:=Hd9 h1
 have H2:=Hd9 h2
 clear h1 h2 hx hy hn1 hn2 hn3 hn4 la lb la2 lb2
 go_enter Tryz.func68, Tryz.ntmps68
 go_wp2_with fail
 have L:=(((L0.varS (w.heap.size) (by simp) (ng a) A (zl a) c (ng b) B (zl b) d).varS (w.heap.size + 1) (by simp) (ng a2) A2 (zl a2) c2 (ng b2) B2 (zl b2) d2).varS (w.heap.size + 2) (by simp) false none 0 0 false none 0 0)
 replace L:=L.drew
 obtain ⟨c00,c01,c02,c03⟩:=L.b0.a4
 obtain ⟨f00,f01,f02,f03⟩:=L.b0.f4
 obtain ⟨c10,c11,c12,c13⟩:=L.tl.b0.a4
 obtain ⟨c20,c21,c22,c23⟩:=L.tl.tl.b0.a4
 go_region_held3 (fun w' => w'.cell? ⟨w.heap.size, 0, none⟩ = some (.bool (ng a)) ∧ w'.cell? ⟨w.heap.size, 1, none⟩ = some (.slice A (zl a) c) ∧ w'.cell? ⟨w.heap.size, 2, none⟩ = some (.bool (ng b)) ∧ w'.cell? ⟨w.heap.size, 3, none⟩ = some (.slice B (zl b) d) ∧ w'.cell? ⟨(w.heap.size + 1), 0, none⟩ = some (.bool (ng a2)) ∧ w'.cell? ⟨(w.heap.size + 1), 1, none⟩ = some (.slice A2 (zl a2) c2) ∧ w'.cell? ⟨(w.heap.size + 1), 2, none⟩ = some (.bool (ng b2)) ∧ w'.cell? ⟨(w.heap.size + 1), 3, none⟩ = some (.slice B2 (zl b2) d2)) (first | (with_reducible exact ⟨L.tl.tl.b0.c40, L.tl.tl.b0.c41, L.tl.tl.b0.c42, L.tl.tl.b0.c43, L.tl.b0.c40, L.tl.b0.c41, L.tl.b0.c42, L.tl.b0.c43⟩) | (have LP:=L.putS (by omega) (by first | (simp; done) | (simp; omega)) (ng x) A8 (zl x) c8 (ng y) A9 (zl y) c9; unfold put4 at LP; with_reducible exact ⟨LP.tl.tl.b0.c40, LP.tl.tl.b0.c41, LP.tl.tl.b0.c42, LP.tl.tl.b0.c43, LP.tl.b0.c40, LP.tl.b0.c41, LP.tl.b0.c42, LP.tl.b0.c43⟩) | exact ⟨L.tl.tl.b0.c40, L.tl.tl.b0.c41, L.tl.tl.b0.c42, L.tl.tl.b0.c43, L.tl.b0.c40, L.tl.b0.c41, L.tl.b0.c42, L.tl.b0.c43⟩) (first | (go_at_call 118; (with_reducible refine (H1.out _ _ _ ?_ ?_ ).mono ?_); (· (refine isZ_s (L.getN ?_); (repeat (first | (with_reducible exact mS) | apply mT)))); (· (refine isZ_s (L.getN ?_); (repeat (first | (with_reducible exact mS) | apply mT)))); rintro e wh ⟨vh, rfl, iz, be⟩; obtain ⟨A8, c8, rfl, in9⟩:=iz.form; replace L:=(L.step be).n in9; clear be iz in9; (try (obtain ⟨x00,x01,x02,x03⟩:=L.b0.a4; obtain ⟨y00,y01,y02,y03⟩:=L.b0.f4))) | (go_at_call 118; (with_reducible refine (H2.out _ _ _ ?_ ?_ ).mono ?_); (· (refine isZ_s (L.getN ?_); (repeat (first | (with_reducible exact mS) | apply mT)))); (· (refine isZ_s (L.getN ?_); (repeat (first | (with_reducible exact mS) | apply mT)))); rintro e wh ⟨vh, rfl, iz, be⟩; obtain ⟨A9, c9, rfl, in9⟩:=iz.form; replace L:=(L.step be).n in9; clear be iz in9; (try (obtain ⟨x00,x01,x02,x03⟩:=L.b0.a4; obtain ⟨y00,y01,y02,y03⟩:=L.b0.f4))))
 clear c00 f00 c01 f01 c02 f02 c03 f03 c10 c11 c12 c13 c20 c21 c22 c23
 go_wp2_with fail
 have LP:=L.putS (by omega) (by first | (simp; done) | (simp; omega)) (ng x) A8 (zl x) c8 (ng y) A9 (zl y) c9
 obtain ⟨k0,k1,k2,k3⟩:=LP.b0.a4
 unfold put4 at k0 k1 k2 k3
 exact bodyPost_ret (v:=.agg #[.bool (ng x), .slice A8 (zl x) c8, .bool (ng y), .slice A9 (zl y) c9]) (by simp [results, Tryz.results68, go_sem, k0, k1, k2, k3]) rfl ⟨_, rfl, isS_n (LP.getN (by simp)) (LP.getN (by simp)), LP.below⟩
theorem s13neg_any (a b : Int) (vx : Value) (w : World) (hx : IsS w vx a b) (la : zl a ≤ 10000) (lb : zl b ≤ 10000) :
  Calls Tryz.prog 85 #[vx] w (RetSp w (-b) (-a)):=by
 obtain ⟨A, c, B, d, rfl, hn1, hn2⟩:=hx.form
 have L0:=((Lq.mk0 w).n hn2).n hn1
 have h1:=fun v W h => rzneg_any b v W h (by omega)
 have h2:=fun v W h => rzneg_any a v W h (by omega)
 obtain ⟨x, hx⟩:=nm9 (-b)
 obtain ⟨y, hy⟩:=nm9 (-a)
 rw [hx] at h1 ⊢
 rw [hy] at h2 ⊢
 have H1:=Hd9 h1
 have H2:=Hd9 h2
 clear h1 h2 hx hy hn1 hn2 la lb
 go_enter Tryz.func85, Tryz.ntmps85
 go_wp2_with fail
 have L:=((L0.varS (w.heap.size) (by simp) (ng a) A (zl a) c (ng b) B (zl b) d).varS (w.heap.size + 1) (by simp) false none 0 0 false none 0 0)
 replace L:=L.drew
 obtain ⟨c00,c01,c02,c03⟩:=L.b0.a4
 obtain ⟨f00,f01,f02,f03⟩:=L.b0.f4
 obtain ⟨c10,c11,c12,c13⟩:=L.tl.b0.a4
 go_region_held3 (fun w' => w'.cell? ⟨w.heap.size, 0, none⟩ = some (.bool (ng a)) ∧ w'.cell? ⟨w.heap.size, 1, none⟩ = some (.slice A (zl a) c) ∧ w'.cell? ⟨w.heap.size, 2, none⟩ = some (.bool (ng b)) ∧ w'.cell? ⟨w.heap.size, 3, none⟩ = some (.slice B (zl b) d)) (first | (with_reducible exact ⟨L.tl.b0.c40, L.tl.b0.c41, L.tl.b0.c42, L.tl.b0.c43⟩) | (have LP:=L.putS (by omega) (by first | (simp; done) | (simp; omega)) (ng x) A8 (zl x) c8 (ng y) A9 (zl y) c9; unfold put4 at LP; with_reducible exact ⟨LP.tl.b0.c40, LP.tl.b0.c41, LP.tl.b0.c42, LP.tl.b0.c43⟩) | exact ⟨L.tl.b0.c40, L.tl.b0.c41, L.tl.b0.c42, L.tl.b0.c43⟩) (first | (go_at_call 112; (with_reducible refine (H1.out _ _ ?_ ).mono ?_); (· (refine isZ_s (L.getN ?_); (repeat (first | (with_reducible exact mS) | apply mT)))); rintro e wh ⟨vh, rfl, iz, be⟩; obtain ⟨A8, c8, rfl, in9⟩:=iz.form; replace L:=(L.step be).n in9; clear be iz in9; (try (obtain ⟨x00,x01,x02,x03⟩:=L.b0.a4; obtain ⟨y00,y01,y02,y03⟩:=L.b0.f4))) | (go_at_call 112; (with_reducible refine (H2.out _ _ ?_ ).mono ?_); (· (refine isZ_s (L.getN ?_); (repeat (first | (with_reducible exact mS) | apply mT)))); rintro e wh ⟨vh, rfl, iz, be⟩; obtain ⟨A9, c9, rfl, in9⟩:=iz.form; replace L:=(L.step be).n in9; clear be iz in9; (try (obtain ⟨x00,x01,x02,x03⟩:=L.b0.a4; obtain ⟨y00,y01,y02,y03⟩:=L.b0.f4))))
 clear c00 f00 c01 f01 c02 f02 c03 f03 c10 c11 c12 c13
 go_wp2_with fail
 have LP:=L.putS (by omega) (by first | (simp; done) | (simp; omega)) (ng x) A8 (zl x) c8 (ng y) A9 (zl y) c9
 obtain ⟨k0,k1,k2,k3⟩:=LP.b0.a4
 unfold put4 at k0 k1 k2 k3
 exact bodyPost_ret (v:=.agg #[.bool (ng x), .slice A8 (zl x) c8, .bool (ng y), .slice A9 (zl y) c9]) (by simp [results, Tryz.results85, go_sem, k0, k1, k2, k3]) rfl ⟨_, rfl, isS_n (LP.getN (by simp)) (LP.getN (by simp)), LP.below⟩
theorem s13sub_any (a b a2 b2 : Int) (vx vy : Value) (w : World) (hx : IsS w vx a b) (hy : IsS w vy a2 b2) (la : zl a ≤ 10000) (lb : zl b ≤ 10000) (la2 : zl a2 ≤ 10000) (lb2 : zl b2 ≤ 10000) :
  Calls Tryz.prog 66 #[vx, vy] w (RetSp w (a + -b2) (b + -a2)):=by
 obtain ⟨A, c, B, d, rfl, hn1, hn2⟩:=hx.form
 obtain ⟨A2, c2, B2, d2, rfl, hn3, hn4⟩:=hy.form
 have L0:=((((Lq.mk0 w).n hn4).n hn3).n hn2).n hn1
 have z1:=zl_neg a2
 have z2:=zl_neg b2
 have h1:=fun v W h => s13neg_any a2 b2 v W h la2 lb2
 have h2:=fun v u W h k => s13add_any a b (-b2) (-a2) v u W h k la lb (by omega) (by omega)
 obtain ⟨p, hp⟩:=nm9 (-b2)
 obtain ⟨q, hq⟩:=nm9 (-a2)
 rw [hp, hq] at h1 h2 ⊢
 obtain ⟨x, hx⟩:=nm9 (a + p)
 obtain ⟨y, hy⟩:=nm9 (b + q)
 rw [hx, hy] at h2 ⊢
 have H1:=Hd9 h1
 have H2:=Hd9 h2
 clear h1 h2 hx hy hn1 hn2 hn3 hn4 la lb la2 lb2 hp hq z1 z2
 go_enter Tryz.func66, Tryz.ntmps66
 go_wp2_with fail
 have L:=(((L0.varS (w.heap.size) (by simp) (ng a) A (zl a) c (ng b) B (zl b) d).varS (w.heap.size + 1) (by simp) (ng a2) A2 (zl a2) c2 (ng b2) B2 (zl b2) d2).varS (w.heap.size + 2) (by simp) false none 0 0 false none 0 0)
 replace L:=L.drew
 obtain ⟨c00,c01,c02,c03⟩:=L.b0.a4
 obtain ⟨f00,f01,f02,f03⟩:=L.b0.f4
 obtain ⟨c10,c11,c12,c13⟩:=L.tl.b0.a4
 obtain ⟨c20,c21,c22,c23⟩:=L.tl.tl.b0.a4
 go_region_held3 (fun w' => w'.cell? ⟨w.heap.size, 0, none⟩ = some (.bool (ng a)) ∧ w'.cell? ⟨w.heap.size, 1, none⟩ = some (.slice A (zl a) c) ∧ w'.cell? ⟨w.heap.size, 2, none⟩ = some (.bool (ng b)) ∧ w'.cell? ⟨w.heap.size, 3, none⟩ = some (.slice B (zl b) d) ∧ w'.cell? ⟨(w.heap.size + 1), 0, none⟩ = some (.bool (ng a2)) ∧ w'.cell? ⟨(w.heap.size + 1), 1, none⟩ = some (.slice A2 (zl a2) c2) ∧ w'.cell? ⟨(w.heap.size + 1), 2, none⟩ = some (.bool (ng b2)) ∧ w'.cell? ⟨(w.heap.size + 1), 3, none⟩ = some (.slice B2 (zl b2) d2)) (first | (with_reducible exact ⟨L.tl.tl.b0.c40, L.tl.tl.b0.c41, L.tl.tl.b0.c42, L.tl.tl.b0.c43, L.tl.b0.c40, L.tl.b0.c41, L.tl.b0.c42, L.tl.b0.c43⟩) | (have LP:=L.putS (by omega) (by first | (simp; done) | (simp; omega)) (ng x) A8 (zl x) c8 (ng y) B8 (zl y) d8; unfold put4 at LP; with_reducible exact ⟨LP.tl.tl.b0.c40, LP.tl.tl.b0.c41, LP.tl.tl.b0.c42, LP.tl.tl.b0.c43, LP.tl.b0.c40, LP.tl.b0.c41, LP.tl.b0.c42, LP.tl.b0.c43⟩) | exact ⟨L.tl.tl.b0.c40, L.tl.tl.b0.c41, L.tl.tl.b0.c42, L.tl.tl.b0.c43, L.tl.b0.c40, L.tl.b0.c41, L.tl.b0.c42, L.tl.b0.c43⟩) (first | (go_at_call 85; (with_reducible refine (H1.out _ _ ?_ ).mono ?_); (· (refine isS_n (L.getN ?_) (L.getN ?_) <;> (repeat (first | (with_reducible exact mS) | apply mT)))); rintro e wh ⟨vh, rfl, iq, be⟩; obtain ⟨A7, c7, B7, d7, rfl, ia, ib⟩:=iq.form; replace L:=((L.step be).n ib).n ia; clear be iq ia ib; (try (obtain ⟨x00,x01,x02,x03⟩:=L.b0.a4; obtain ⟨y00,y01,y02,y03⟩:=L.b0.f4))) | (go_at_call 68; (with_reducible refine (H2.out _ _ _ ?_ ?_ ).mono ?_); (· (refine isS_n (L.getN ?_) (L.getN ?_) <;> (repeat (first | (with_reducible exact mS) | apply mT)))); (· (refine isS_n (L.getN ?_) (L.getN ?_) <;> (repeat (first | (with_reducible exact mS) | apply mT)))); rintro e wh ⟨vh, rfl, iq, be⟩; obtain ⟨A8, c8, B8, d8, rfl, ia, ib⟩:=iq.form; replace L:=((L.step be).n ib).n ia; clear be iq ia ib; (try (obtain ⟨x00,x01,x02,x03⟩:=L.b0.a4; obtain ⟨y00,y01,y02,y03⟩:=L.b0.f4))))
 clear c00 f00 c01 f01 c02 f02 c03 f03 c10 c11 c12 c13 c20 c21 c22 c23
 go_wp2_with fail
 have LP:=L.putS (by omega) (by first | (simp; done) | (simp; omega)) (ng x) A8 (zl x) c8 (ng y) B8 (zl y) d8
 obtain ⟨k0,k1,k2,k3⟩:=LP.b0.a4
 unfold put4 at k0 k1 k2 k3
 exact bodyPost_ret (v:=.agg #[.bool (ng x), .slice A8 (zl x) c8, .bool (ng y), .slice B8 (zl y) d8]) (by simp [results, Tryz.results66, go_sem, k0, k1, k2, k3]) rfl ⟨_, rfl, isS_n (LP.getN (by simp)) (LP.getN (by simp)), LP.below⟩

theorem Lq.subx {w0 w : World} {ns : List (Value × Nat)} {zs : List (Value × Int)} {qs : List (Value × Int × Nat)} {bs : List (Nat × TypeId × Array Value)} (h : Lq w0 w ns zs qs bs) {ns' : List (Value × Nat)} {bs' : List (Nat × TypeId × Array Value)} (h1 : ∀ p ∈ ns', p ∈ ns) (h2 : ∀ b ∈ bs', b ∈ bs) : Lq w0 w ns' [] [] bs':=
 ⟨h.below, fun x hx => h.ns x (h1 x hx), fun _ x => (by cases x), fun _ x => (by cases x), fun x hx => h.bs x (h2 x hx)⟩

theorem s13at_any (m e : Int) (v : Nat) (vx : Value) (w : World) (hx : IsD w vx m e) (lm : zl m ≤ 1000) (he : -20000 ≤ e ∧ e ≤ 20000) (hv : v ≤ 20000) :
  Calls Tryz.prog 64 #[vx, .int .i64 (v : Int)] w (RetSp w (cutQ (dq m e) (v : Int)) (-(cutQ (-(dq m e)) (v : Int)))):=by
 obtain ⟨A, c, rfl, _, hn⟩:=hx.form
 have L0:=(Lq.mk0 w).n hn
 have zn:=zl_neg m
 have x1:=zl_two m e.toNat
 have y1:=len_two (-e).toNat
 have z1:=two_pos8 (-e).toNat
 have x2:=zl_two (-m) e.toNat
 have h1:=fun v W h => rrat8_any m e v W h (by omega) (by omega)
 have h2:=fun x W h => rcut_any (m * 2 ^ e.toNat) (2 ^ (-e).toNat) (v : Int) x W h (by omega) (by omega) z1 (by omega) (by omega)
 have h3:=fun v W h => rneg8_any m e v W h (by omega)
 have h4:=fun v W h => rrat8_any (-m) e v W h (by omega) (by omega)
 have h5:=fun x W h => rcut_any (-m * 2 ^ e.toNat) (2 ^ (-e).toNat) (v : Int) x W h (by omega) (by omega) z1 (by omega) (by omega)
 rw [show Rat.divInt (m * 2 ^ e.toNat) ((2 ^ (-e).toNat : Nat) : Int) = dq m e from rfl] at h2
 rw [show Rat.divInt (-m * 2 ^ e.toNat) ((2 ^ (-e).toNat : Nat) : Int) = -(dq m e) from dq_neg m e] at h5
 have lz : zl (cutQ (-(dq m e)) (v : Int)) ≤ 274877906944:=by
  rw [show -(dq m e) = Rat.divInt (-m * 2 ^ e.toNat) ((2 ^ (-e).toNat : Nat) : Int) from (dq_neg m e).symm, cut_eq _ _ z1]
  have a1:=zl_two (-m * 2 ^ e.toNat) ((v : Int)).toNat
  refine Nat.le_trans (len_mono (Int.natAbs_ediv_le_natAbs _ _)) ?_
  exact Nat.le_trans a1 (by omega)
 have h6:=fun x W h => rzneg_any (cutQ (-(dq m e)) (v : Int)) x W h lz
 obtain ⟨x, hx⟩:=nm9 (cutQ (dq m e) (v : Int))
 obtain ⟨y, hy⟩:=nm9 (cutQ (-(dq m e)) (v : Int))
 rw [hx] at h2 ⊢
 rw [hy] at h5 h6 ⊢
 obtain ⟨z, hz⟩:=nm9 (-y)
 rw [hz] at h6 ⊢
 generalize m * 2 ^ e.toNat = p1 at *
 generalize -m * 2 ^ e.toNat = p2 at *
 generalize 2 ^ (-e).toNat = q1 at *
 have H1:=Hd9 h1
 have H2:=Hd9 h2
 have H3:=Hd9 h3
 have H4:=Hd9 h4
 have H5:=Hd9 h5
 have H6:=Hd9 h6
 clear h1 h2 h3 h4 h5 h6 hx hy hz lz zn x1 y1 z1 x2 hn lm he
 go_enter Tryz.func64, Tryz.ntmps64
 have L:=((L0.varD (w.heap.size) (by simp) (ng m) A (zl m) c e).varS (w.heap.size + 1) (by simp) false none 0 0 false none 0 0)
 obtain ⟨c10,c11,c12⟩:=L.tl.b0.a3
 (try go_wp2_with fail)
 refine (H1.out _ _ (isD_n (m:=m) (e:=e) (s:=.slice A (zl m) c) (L.getN (by simp)))).mono ?_
 rintro e w1 ⟨v1, rfl, iq, be⟩
 clear c10 c11 c12
 obtain ⟨A1, c1, B1, d1, rfl, _, i1, i2⟩:=iq.form
 replace L:=((L.step be).n i2).n i1
 clear be iq i1 i2
 have hl1:=L.b0.lt
 replace L:=L.varQ w1.heap.size rfl (ng p1) A1 B1 (zl p1) c1 (len q1) d1
 obtain ⟨c00,c01,c02⟩:=L.b0.a3
 go_wp2_with fail
 clear c00 c01 c02
 obtain ⟨g1, hg1⟩:=nm9 (w1.heap.size)
 rw [hg1] at L hl1 ⊢
 clear hg1
 refine (H2.out _ _ ⟨.slice A1 (zl p1) c1, .slice B1 (len q1) d1, rfl, L.getN (by simp), L.getN (by simp)⟩).mono ?_
 rintro e w2 ⟨v2, rfl, iz, be⟩
 obtain ⟨A2, c2, rfl, i1⟩:=iz.form
 replace L:=(L.step be).n i1
 clear be iz i1
 have hl2:=L.b0.lt
 replace L:=L.varZ w2.heap.size rfl (ng x) A2 (zl x) c2
 obtain ⟨c00,c01⟩:=L.b0.a2
 obtain ⟨c30,c31,c32⟩:=L.tl.tl.tl.b0.a3
 go_wp2_with fail
 clear c00 c01 c30 c31 c32
 obtain ⟨g2, hg2⟩:=nm9 (w2.heap.size)
 rw [hg2] at L hl2 ⊢
 clear hg2
 have n1 : w.heap.size + 1 ≠ g1:=by omega
 have n2 : w.heap.size + 1 ≠ g2:=by omega
 have L9:=L.subx (ns':=[(.slice A2 (zl x) c2, x.natAbs), (.slice A (zl m) c, m.natAbs)]) (bs':=[(w.heap.size + 1, 79, #[.bool false, .slice none 0 0, .bool false, .slice none 0 0]), (g2, 24, #[.bool (ng x), .slice A2 (zl x) c2]), (w.heap.size, 26, #[.bool (ng m), .slice A (zl m) c, .int .i64 e])]) (by simp) (by simp)
 clear L
 have L:=L9.drew
 clear L9
 obtain ⟨c00,c01,c02,c03⟩:=L.b0.a4
 obtain ⟨f00,f01,f02,f03⟩:=L.b0.f4
 obtain ⟨c10,c11⟩:=L.tl.b0.a2
 obtain ⟨c20,c21,c22⟩:=L.tl.tl.b0.a3
 go_region_held3 (fun w' => w'.cell? ⟨g2, 0, none⟩ = some (.bool (ng x)) ∧ w'.cell? ⟨g2, 1, none⟩ = some (.slice A2 (zl x) c2) ∧ w'.cell? ⟨w.heap.size, 0, none⟩ = some (.bool (ng m)) ∧ w'.cell? ⟨w.heap.size, 1, none⟩ = some (.slice A (zl m) c) ∧ w'.cell? ⟨w.heap.size, 2, none⟩ = some (.int .i64 e)) (first | (with_reducible exact ⟨L.tl.b0.c20, L.tl.b0.c21, L.tl.tl.b0.c30, L.tl.tl.b0.c31, L.tl.tl.b0.c32⟩) | (have LP:=L.putS (by omega) (by first | (simp; done) | (simp; omega)) (ng x) A2 (zl x) c2 (ng z) A8 (zl z) c8; unfold put4 at LP; with_reducible exact ⟨LP.tl.b0.c20, LP.tl.b0.c21, LP.tl.tl.b0.c30, LP.tl.tl.b0.c31, LP.tl.tl.b0.c32⟩) | exact ⟨L.tl.b0.c20, L.tl.b0.c21, L.tl.tl.b0.c30, L.tl.tl.b0.c31, L.tl.tl.b0.c32⟩) (first | (go_at_call 44; (with_reducible refine (H3.out _ _ ?_ ).mono ?_); (· (refine isD_n (L.getN ?_); (repeat (first | (with_reducible exact mS) | apply mT)))); rintro e wh ⟨vh, rfl, id, be⟩; obtain ⟨A4, c4, rfl, _, in9⟩:=id.form; replace L:=(L.step be).n in9; clear be id in9) | (go_at_call 138; (with_reducible refine (H4.out _ _ ?_ ).mono ?_); (· (refine isD_n (L.getN ?_); (repeat (first | (with_reducible exact mS) | apply mT)))); rintro e wh ⟨vh, rfl, iq, be⟩; replace L:=(L.step be).q iq; clear be iq) | (go_at_call 139; (with_reducible refine (H5.out _ _ ?_ ).mono ?_); (· (refine L.getQ ?_; (repeat (first | (with_reducible exact mS) | apply mT)))); rintro e wh ⟨vh, rfl, iz, be⟩; replace L:=(L.step be).z iz; clear be iz) | (go_at_call 112; (with_reducible refine (H6.out _ _ ?_ ).mono ?_); (· (refine L.getZ ?_; (repeat (first | (with_reducible exact mS) | apply mT)))); rintro e wh ⟨vh, rfl, iz, be⟩; obtain ⟨A8, c8, rfl, in9⟩:=iz.form; replace L:=(L.step be).n in9; clear be iz in9; (try (obtain ⟨x00,x01,x02,x03⟩:=L.b0.a4; obtain ⟨y00,y01,y02,y03⟩:=L.b0.f4))))
 clear c00 f00 c01 f01 c02 f02 c03 f03 c10 c11 c20 c21 c22
 go_wp2_with fail
 have LP:=L.putS (by omega) (by first | (simp; done) | (simp; omega)) (ng x) A2 (zl x) c2 (ng z) A8 (zl z) c8
 obtain ⟨k0,k1,k2,k3⟩:=LP.b0.a4
 unfold put4 at k0 k1 k2 k3
 exact bodyPost_ret (v:=.agg #[.bool (ng x), .slice A2 (zl x) c2, .bool (ng z), .slice A8 (zl z) c8]) (by simp [results, Tryz.results64, go_sem, k0, k1, k2, k3]) rfl ⟨_, rfl, isS_n (LP.getN (by simp)) (LP.getN (by simp)), LP.below⟩

theorem s13near_any (m e n f m1 e1 n1 f1 m2 e2 n2 f2 k M E R Ma Ea Mb Eb x1 x2 x3 x4 : Int) (vx vl vh : Value) (w : World) (hx : IsI w vx m e n f) (hl : IsI w vl m1 e1 n1 f1) (hh : IsI w vh m2 e2 n2 f2) (w1 : IntKind.i64.wrap (k - 1) = k - 1) (h0 : ∀ v W, IsI W v m e n f → Calls Tryz.prog 59 #[v] W (RetB W true)) (h1 : ∀ v W, IsD W v m e → Calls Tryz.prog 60 #[v, .int .i64 k] W (RetB W true)) (h2 : ∀ v W, IsD W v n f → Calls Tryz.prog 60 #[v, .int .i64 k] W (RetB W true)) (h3 : ∀ W, Calls Tryz.prog 61 #[.int .i64 (k - 1)] W (RetDE W M E R)) (h4 : ∀ v u W, IsD W v m1 e1 → IsD W u M E → Calls Tryz.prog 62 #[v, u] W (RetDE W Ma Ea 0)) (h5 : ∀ v u W, IsD W v n2 f2 → IsD W u M E → Calls Tryz.prog 48 #[v, u] W (RetDE W Mb Eb 0)) (h6 : (∀ v u W, IsD W v m e → IsD W u n1 f1 → Calls Tryz.prog 39 #[v, u] W (RetI W x1))) (h7 : (∀ v u W, IsD W v Ma Ea → IsD W u m e → Calls Tryz.prog 39 #[v, u] W (RetI W x2))) (h8 : (∀ v u W, IsD W v m2 e2 → IsD W u n f → Calls Tryz.prog 39 #[v, u] W (RetI W x3))) (h9 : (∀ v u W, IsD W v n f → IsD W u Mb Eb → Calls Tryz.prog 39 #[v, u] W (RetI W x4))) (q1 : x1 ≤ 0) (q2 : x2 ≤ 0) (q3 : x3 ≤ 0) (q4 : x4 ≤ 0) :
  Calls Tryz.prog 16 #[vx, vl, vh, .int .i64 k] w (RetB w true):=by
 obtain ⟨A, c, B, d, rfl, hn1, hn2⟩:=hx.form
 obtain ⟨A1, c1, B1, d1, rfl, hn3, hn4⟩:=hl.form
 obtain ⟨A2, c2, B2, d2, rfl, hn5, hn6⟩:=hh.form
 have L0:=((((((Lq.mk0 w).n hn6).n hn5).n hn4).n hn3).n hn2).n hn1
 have H0:=Hd9 h0
 have H1:=Hd9 h1
 have H2:=Hd9 h2
 have H3:=Hd9 h3
 have H4:=Hd9 h4
 have H5:=Hd9 h5
 have H6:=Hd9 h6
 have H7:=Hd9 h7
 have H8:=Hd9 h8
 have H9:=Hd9 h9
 have p1 : decide (x1 ≤ 0) = true:=decide_eq_true q1
 have p2 : decide (x2 ≤ 0) = true:=decide_eq_true q2
 have p3 : decide (x3 ≤ 0) = true:=decide_eq_true q3
 have p4 : decide (x4 ≤ 0) = true:=decide_eq_true q4
 clear h0 h1 h2 h3 h4 h5 h6 h7 h8 h9 hx hl hh hn1 hn2 hn3 hn4 hn5 hn6 q1 q2 q3 q4
 go_enter Tryz.func16, Tryz.ntmps16
 go_wp2_with fail
 have L:=(((L0.varI (w.heap.size) (by simp) (ng m) A (zl m) c e (ng n) B (zl n) d f).varI (w.heap.size + 1) (by simp) (ng m1) A1 (zl m1) c1 e1 (ng n1) B1 (zl n1) d1 f1).varI (w.heap.size + 2) (by simp) (ng m2) A2 (zl m2) c2 e2 (ng n2) B2 (zl n2) d2 f2)
 obtain ⟨c20,c21,c22,c23,c24,c25⟩:=L.tl.tl.b0.a6
 (try go_wp2_with fail)
 refine (H0.out _ _ (isI_n (m:=m) (e:=e) (n:=n) (f:=f) (L.getN (by simp)) (L.getN (by simp)))).mono ?_
 rintro e w1 ⟨rfl, be⟩
 clear c20 c21 c22 c23 c24 c25
 replace L:=L.step be
 clear be
 obtain ⟨c20,c21,c22,c23,c24,c25⟩:=L.tl.tl.b0.a6
 (try go_wp2_with fail)
 refine (H1.out _ _ (isD_n (m:=m) (e:=e) (s:=.slice A (zl m) c) (L.getN (by simp)))).mono ?_
 rintro e w2 ⟨rfl, be⟩
 clear c20 c21 c22 c23 c24 c25
 replace L:=L.step be
 clear be
 obtain ⟨c20,c21,c22,c23,c24,c25⟩:=L.tl.tl.b0.a6
 (try go_wp2_with fail)
 refine (H2.out _ _ (isD_n (m:=n) (e:=f) (s:=.slice B (zl n) d) (L.getN (by simp)))).mono ?_
 rintro e w3 ⟨rfl, be⟩
 clear c20 c21 c22 c23 c24 c25
 replace L:=L.step be
 clear be
 (try go_wp2_with fail)
 refine (H3.out _).mono ?_
 rintro e w4 ⟨vv, rfl, id, be⟩
 obtain ⟨A3, c3, rfl, _, in9⟩:=id.form
 replace L:=(L.step be).n in9
 clear be id in9
 have hl0:=L.b0.lt
 replace L:=L.varD w4.heap.size rfl (ng M) A3 (zl M) c3 E
 obtain ⟨c00,c01,c02⟩:=L.b0.a3
 obtain ⟨c20,c21,c22,c23,c24,c25⟩:=L.tl.tl.b0.a6
 go_wp2_with fail
 clear c00 c01 c02 c20 c21 c22 c23 c24 c25
 obtain ⟨g3, hg3⟩:=nm9 (w4.heap.size)
 rw [hg3] at L hl0 ⊢
 clear hg3
 refine (H4.out _ _ _ (isD_n (m:=m1) (e:=e1) (s:=.slice A1 (zl m1) c1) (L.getN (by simp))) (isD_n (m:=M) (e:=E) (s:=.slice A3 (zl M) c3) (L.getN (by simp)))).mono ?_
 rintro e w5 ⟨vv, rfl, id, be⟩
 obtain ⟨A4, c4, rfl, _, in9⟩:=id.form
 replace L:=(L.step be).n in9
 clear be id in9
 have hl1:=L.b0.lt
 replace L:=L.varD w5.heap.size rfl (ng Ma) A4 (zl Ma) c4 Ea
 obtain ⟨c10,c11,c12⟩:=L.tl.b0.a3
 obtain ⟨c20,c21,c22,c23,c24,c25⟩:=L.tl.tl.b0.a6
 go_wp2_with fail
 clear c10 c11 c12 c20 c21 c22 c23 c24 c25
 obtain ⟨g4, hg4⟩:=nm9 (w5.heap.size)
 rw [hg4] at L hl1 ⊢
 clear hg4
 refine (H5.out _ _ _ (isD_n (m:=n2) (e:=f2) (s:=.slice B2 (zl n2) d2) (L.getN (by simp))) (isD_n (m:=M) (e:=E) (s:=.slice A3 (zl M) c3) (L.getN (by simp)))).mono ?_
 rintro e w6 ⟨vv, rfl, id, be⟩
 obtain ⟨A5, c5, rfl, _, in9⟩:=id.form
 replace L:=(L.step be).n in9
 clear be id in9
 have hl2:=L.b0.lt
 replace L:=L.varD w6.heap.size rfl (ng Mb) A5 (zl Mb) c5 Eb
 obtain ⟨c00,c01,c02⟩:=L.b0.a3
 obtain ⟨c40,c41,c42,c43,c44,c45⟩:=L.tl.tl.tl.tl.b0.a6
 obtain ⟨c50,c51,c52,c53,c54,c55⟩:=L.tl.tl.tl.tl.tl.b0.a6
 go_wp2_with fail
 clear c00 c01 c02 c40 c41 c42 c43 c44 c45 c50 c51 c52 c53 c54 c55
 obtain ⟨g5, hg5⟩:=nm9 (w6.heap.size)
 rw [hg5] at L hl2 ⊢
 clear hg5
 refine (H6.out _ _ _ (isD_n (m:=m) (e:=e) (s:=.slice A (zl m) c) (L.getN (by simp))) (isD_n (m:=n1) (e:=f1) (s:=.slice B1 (zl n1) d1) (L.getN (by simp)))).mono ?_
 rintro e w7 ⟨rfl, be⟩
 replace L:=L.step be
 clear be
 obtain ⟨c10,c11,c12⟩:=L.tl.b0.a3
 obtain ⟨c50,c51,c52,c53,c54,c55⟩:=L.tl.tl.tl.tl.tl.b0.a6
 (try go_wp2_with fail)
 refine (H7.out _ _ _ (isD_n (m:=Ma) (e:=Ea) (s:=.slice A4 (zl Ma) c4) (L.getN (by simp))) (isD_n (m:=m) (e:=e) (s:=.slice A (zl m) c) (L.getN (by simp)))).mono ?_
 rintro e w8 ⟨rfl, be⟩
 clear c10 c11 c12 c50 c51 c52 c53 c54 c55
 replace L:=L.step be
 clear be
 obtain ⟨c30,c31,c32,c33,c34,c35⟩:=L.tl.tl.tl.b0.a6
 obtain ⟨c50,c51,c52,c53,c54,c55⟩:=L.tl.tl.tl.tl.tl.b0.a6
 (try go_wp2_with fail)
 refine (H8.out _ _ _ (isD_n (m:=m2) (e:=e2) (s:=.slice A2 (zl m2) c2) (L.getN (by simp))) (isD_n (m:=n) (e:=f) (s:=.slice B (zl n) d) (L.getN (by simp)))).mono ?_
 rintro e w9 ⟨rfl, be⟩
 clear c30 c31 c32 c33 c34 c35 c50 c51 c52 c53 c54 c55
 replace L:=L.step be
 clear be
 obtain ⟨c00,c01,c02⟩:=L.b0.a3
 obtain ⟨c50,c51,c52,c53,c54,c55⟩:=L.tl.tl.tl.tl.tl.b0.a6
 (try go_wp2_with fail)
 refine (H9.out _ _ _ (isD_n (m:=n) (e:=f) (s:=.slice B (zl n) d) (L.getN (by simp))) (isD_n (m:=Mb) (e:=Eb) (s:=.slice A5 (zl Mb) c5) (L.getN (by simp)))).mono ?_
 rintro e w10 ⟨rfl, be⟩
 clear c00 c01 c02 c50 c51 c52 c53 c54 c55
 replace L:=L.step be
 clear be
 (try go_wp2_with fail)
 (try go_ret)
 exact ⟨rfl, L.below⟩

def tnP (n sg : Int) (k : Nat) : Int × Int:=if k = 0 then (n, n * n + sg) else (sg * 2 * (k : Int), (2 * (k : Int) + 1) * (n * n + sg))
def stP (p : Nat → Int × Int) (k : Nat) (t : Int) : Int:=t * (p k).1 / (p k).2
def smP (p : Nat → Int × Int) : Nat → Nat → Int → Int → Option Int
 | 0, _, _, _ => none
 | f + 1, k, t, s => if stP p k t = 0 then some s else smP p f (k + 1) (stP p k t) (s + stP p k t)
def GdP (p : Nat → Int × Int) : Prop:=∀ k, k ≤ 1000 → ((p k).1.natAbs : Int) ≤ (p k).2 ∧ 0 < (p k).2 ∧ (p k).2 ≤ 4611686018427387904
theorem st_abs {p : Nat → Int × Int} {k : Nat} {t : Int} {j : Nat} (h : GdP p) (hk : k ≤ 1000) (ht : AbP t j) : AbP (stP p k t) j:=by
 obtain ⟨h1, h2, h3⟩:=h k hk
 unfold AbP stP at *
 generalize (p k).1 = a at *
 generalize (p k).2 = b at *
 have x0 : ((t * a).natAbs : Int) ≤ (t.natAbs : Int) * b:=by
  rw [Int.natAbs_mul, Int.natCast_mul]
  exact Int.mul_le_mul_of_nonneg_left h1 (Int.natCast_nonneg _)
 have x1 : t * a / b ≤ (t.natAbs : Int):=Int.ediv_le_of_le_mul h2 (by omega)
 have x2 : -(t.natAbs : Int) ≤ t * a / b:=by
  rw [Int.le_ediv_iff_mul_le h2, Int.neg_mul]
  omega
 omega
def SpI (p : Nat → Int × Int) (v f k : Nat) (t s S : Int) : Prop:=AbP t v ∧ AbP s (v + k) ∧ f + k = 600 ∧ smP p f k t s = some S
theorem SpI.step {p : Nat → Int × Int} {v f k : Nat} {t s S : Int} (hg : GdP p) (h : SpI p v f k t s S) : ∃ g, f = g + 1 ∧ k ≤ 600 ∧ AbP (stP p k t) v ∧
    (stP p k t = 0 → S = s) ∧ (stP p k t ≠ 0 → SpI p v g (k + 1) (stP p k t) (s + stP p k t) S):=by
  obtain ⟨h1, h2, h3, h4⟩:=h
  match f with
  | 0 => cases h4
  | g + 1 =>
    have h5:=st_abs hg (show k ≤ 1000 by omega) h1
    refine ⟨g, rfl, by omega, h5, fun h0 => ?_, fun h0 => ⟨h5, h2.add (h5.up (by omega)), by omega, ?_⟩⟩
    · rw [smP, if_pos h0] at h4
      exact (Option.some.inj h4).symm
    · rw [smP, if_neg h0] at h4
      exact h4
theorem smP_abs {p : Nat → Int × Int} {v : Nat} (hg : GdP p) : ∀ (f k : Nat) (t s S : Int), SpI p v f k t s S → AbP S (v + 600)
  | f, k, t, s, S, h => by
    obtain ⟨g, rfl, hk, _, h1, h2⟩:=h.step hg
    by_cases h0 : stP p k t = 0
    · rw [h1 h0]
      exact h.2.1.up (by omega)
    · exact smP_abs hg g _ _ _ _ (h2 h0)
theorem sp_first {p : Nat → Int × Int} {v : Nat} {S : Int} (h : smP p 600 0 (2 ^ v) 0 = some S) : SpI p v 600 0 (2 ^ v) 0 S:=⟨(tm_one v).abs.1, AbP.zero _, rfl, h⟩
theorem tnP_good {n sg : Int} (h : (n, sg) = (5, 1) ∨ (n, sg) = (239, 1) ∨ (n, sg) = (26, -1) ∨ (n, sg) = (4801, -1) ∨ (n, sg) = (8749, -1)) : GdP (tnP n sg):=fun k hk => by
 unfold tnP
 rcases h with h | h | h | h | h <;> obtain ⟨rfl, rfl⟩:=Prod.mk.inj h <;> split <;> simp only <;> omega
def loC (T : Int) : Int:=(T - 262144) / 4294967296
def hiC (T : Int) : Int:=cdv (T + 262144) 4294967296
theorem cut_st (p : Nat → Int × Int) (k : Nat) (t : Int) (h : 0 < (p k).2) : cutQ (Rat.divInt (t * (Rat.divInt (p k).1 (p k).2).num) (((1 : Nat) : Int) * ((Rat.divInt (p k).1 (p k).2).den : Int))) 0 = stP p k t:=by
 obtain ⟨d, hd⟩ : ∃ d : Nat, (p k).2 = (d : Int):=⟨(p k).2.toNat, by omega⟩
 have e : Rat.divInt (t * (Rat.divInt (p k).1 (p k).2).num) (((1 : Nat) : Int) * ((Rat.divInt (p k).1 (p k).2).den : Int)) = Rat.divInt (t * (p k).1) (d : Int):=by
  rw [← Rat.divInt_mul_divInt, Rat.num_divInt_den, hd, ← Int.mul_one (d : Int), Int.mul_comm (d : Int), ← Rat.divInt_mul_divInt, Int.one_mul]
  rfl
 unfold stP
 rw [e, cut_eq _ d (by omega) 0, hd]
 simp

theorem mk_fits9 {m e : Int} (h : zl m ≤ 700) (h1 : -40000 ≤ e) (h2 : e ≤ 40000) : mkR m e = 0:=by
 unfold mkR
 rw [if_neg (by omega)]
 by_cases h0 : m = 0
 ·rw [if_pos h0]
 ·rw [if_neg h0]
  have ht:=tz_le8 m.natAbs (by omega)
  have e1 : zl m = len m.natAbs:=rfl
  have hb : blen (oddM m).natAbs ≤ 65536:=by
   have:=blen_le_len (oddM m).natAbs
   have h3:=zl_odd m
   have e2 : zl (oddM m) = len (oddM m).natAbs:=rfl
   omega
  have ho : bitB (oddM m).natAbs 0 = true:=by
   obtain ⟨k, hk⟩:=tz_form (x:=m.natAbs) (by omega)
   have hd : m.natAbs / 2 ^ tz m.natAbs = 2 * k + 1:=by
    have:=Nat.mul_div_cancel_left (2 * k + 1) (Nat.pow_pos (n:=tz m.natAbs) (show 0 < 2 by omega))
    rwa [← hk] at this
   unfold bitB
   rw [oddM_abs, hd, Nat.pow_zero, Nat.div_one]
   exact decide_eq_true (by omega)
  have hf : fits8 (oddM m) (oddE m e) = true:=by
   unfold fits8 oddE
   rw [decide_eq_true hb, decide_eq_true (by omega), decide_eq_true (by omega), ho]
   rfl
  rw [hf]
  rfl
theorem mk_uniq {a e b f : Int} (h1 : mkR a e = 0) (h2 : mkR b f = 0) (h : dq a e = dq b f) : mkM a e = mkM b f ∧ mkE a e = mkE b f:=
 dv_uniq (mk_ok h1) (mk_ok h2) (by rw [dq_mk h1, dq_mk h2, h])
theorem mkE_at {x y : Int} {k : Nat} (h : mkR x y = 0) (hz : zl x ≤ k) : mkE x y = 0 ∨ (y ≤ mkE x y ∧ mkE x y ≤ y + 32 * (k : Int)):=by
 unfold mkE
 by_cases h0 : x = 0
 ·rw [if_pos h0]; exact Or.inl rfl
 ·rw [if_neg h0, if_pos h]
  refine Or.inr ?_
  have ht:=tz_le8 x.natAbs (by omega)
  have e1 : zl x = len x.natAbs:=rfl
  unfold oddE
  omega
theorem nf {t : Int} {v : Nat} (h : AbP t v) (hv : v ≤ 6000) : mkR t 0 = 0 ∧ zl (mkM t 0) ≤ 200 ∧ 0 ≤ mkE t 0 ∧ mkE t 0 ≤ 6400 ∧ mkM t 0 * 2 ^ (mkE t 0).toNat = t ∧ dq (mkM t 0) (mkE t 0) = dq t 0:=by
 have hz:=h.zl
 have hr : mkR t 0 = 0:=mk_fits2 (by omega) (by omega) (by omega)
 have z1:=zl_mk t 0
 have z2:=mkE_at hr (show zl t ≤ 190 by omega)
 refine ⟨hr, by omega, by omega, by omega, ?_, dq_mk hr⟩
 unfold mkM mkE
 rw [if_pos hr, if_pos hr]
 by_cases h0 : t = 0
 ·subst h0; rw [oddM_zero]; simp
 ·rw [if_neg h0, show (oddE t 0).toNat = tz t.natAbs from by unfold oddE; omega, odd_form]
theorem nf_zero {t : Int} {v : Nat} (h : AbP t v) (hv : v ≤ 6000) : mkM t 0 = 0 ↔ t = 0:=by
 obtain ⟨_, _, _, _, h5, _⟩:=nf h hv
 constructor
 ·intro e
  rw [e, Int.zero_mul] at h5
  exact h5.symm
 ·rintro rfl
  have hr:=(nf (AbP.zero 0) (by omega)).1
  unfold mkM
  rw [if_pos hr]
  exact oddM_zero
theorem nf00 : mkM 0 0 = 0 ∧ mkE 0 0 = 0:=by
 refine ⟨(nf_zero (AbP.zero 0) (by omega)).2 rfl, ?_⟩
 unfold mkE
 rw [if_pos rfl]
theorem nf_rat {t : Int} {v : Nat} (h : AbP t v) (hv : v ≤ 6000) : mkM t 0 * 2 ^ (mkE t 0).toNat = t ∧ 2 ^ (-(mkE t 0)).toNat = 1:=by
 obtain ⟨_, _, h3, _, h5, _⟩:=nf h hv
 refine ⟨h5, ?_⟩
 rw [show (-(mkE t 0)).toNat = 0 by omega, Nat.pow_zero]
theorem nf_sign {t : Int} {v : Nat} (h : AbP t v) (hv : v ≤ 6000) : (cmpI (mkM t 0) 0 == 0) = decide (t = 0):=by
 have:=nf_zero h hv
 unfold cmpI
 (repeat' split) <;> simp <;> omega
theorem nf_add {s t : Int} {v : Nat} (h1 : AbP s v) (h2 : AbP t v) (hv : v ≤ 5000) :
  mkR (addS (mkM s 0) (mkE s 0) (mkM t 0) (mkE t 0)) (min (mkE s 0) (mkE t 0)) = 0 ∧ mkM (addS (mkM s 0) (mkE s 0) (mkM t 0) (mkE t 0)) (min (mkE s 0) (mkE t 0)) = mkM (s + t) 0 ∧ mkE (addS (mkM s 0) (mkE s 0) (mkM t 0) (mkE t 0)) (min (mkE s 0) (mkE t 0)) = mkE (s + t) 0:=by
 obtain ⟨a1, a2, a3, a4, _, a6⟩:=nf h1 (by omega)
 obtain ⟨b1, b2, b3, b4, _, b6⟩:=nf h2 (by omega)
 have hz:=zl_addS (mkM s 0) (mkE s 0) (mkM t 0) (mkE t 0) 6400 (by omega) (by omega)
 have hr : mkR (addS (mkM s 0) (mkE s 0) (mkM t 0) (mkE t 0)) (min (mkE s 0) (mkE t 0)) = 0:=mk_fits9 (by omega) (by omega) (by omega)
 obtain ⟨c1, _⟩:=nf (h1.add h2) (by omega)
 exact ⟨hr, mk_uniq hr c1 (by rw [dq_add, a6, b6, dq_int, dq_int, dq_int, Rat.intCast_add])⟩
theorem nf_sub {s t : Int} {v : Nat} (h1 : AbP s v) (h2 : AbP t v) (hv : v ≤ 5000) :
  mkR (addS (mkM s 0) (mkE s 0) (-(mkM t 0)) (mkE t 0)) (min (mkE s 0) (mkE t 0)) = 0 ∧ mkM (addS (mkM s 0) (mkE s 0) (-(mkM t 0)) (mkE t 0)) (min (mkE s 0) (mkE t 0)) = mkM (s - t) 0 ∧ mkE (addS (mkM s 0) (mkE s 0) (-(mkM t 0)) (mkE t 0)) (min (mkE s 0) (mkE t 0)) = mkE (s - t) 0:=by
 obtain ⟨a1, a2, a3, a4, _, a6⟩:=nf h1 (by omega)
 obtain ⟨b1, b2, b3, b4, _, b6⟩:=nf h2 (by omega)
 have hn:=zl_neg (mkM t 0)
 have hz:=zl_addS (mkM s 0) (mkE s 0) (-(mkM t 0)) (mkE t 0) 6400 (by omega) (by omega)
 have hr : mkR (addS (mkM s 0) (mkE s 0) (-(mkM t 0)) (mkE t 0)) (min (mkE s 0) (mkE t 0)) = 0:=mk_fits9 (by omega) (by omega) (by omega)
 obtain ⟨c1, _⟩:=nf (h1.add h2.neg) (by omega)
 rw [← Int.sub_eq_add_neg] at c1
 exact ⟨hr, mk_uniq hr c1 (by rw [dq_add, dq_neg, a6, b6, dq_int, dq_int, dq_int, Rat.intCast_sub, Rat.sub_eq_add_neg])⟩
theorem nf_mul {s t : Int} {v u : Nat} (h1 : AbP s v) (h2 : AbP t u) (hv : v + u ≤ 5000) :
  mkR (mkM s 0 * mkM t 0) (mkE s 0 + mkE t 0) = 0 ∧ mkM (mkM s 0 * mkM t 0) (mkE s 0 + mkE t 0) = mkM (s * t) 0 ∧ mkE (mkM s 0 * mkM t 0) (mkE s 0 + mkE t 0) = mkE (s * t) 0:=by
 obtain ⟨a1, a2, a3, a4, _, a6⟩:=nf h1 (by omega)
 obtain ⟨b1, b2, b3, b4, _, b6⟩:=nf h2 (by omega)
 have e1:=mkE_at a1 (k:=200) (by have:=h1.zl; omega)
 have e2:=mkE_at b1 (k:=200) (by have:=h2.zl; omega)
 obtain ⟨c1, _⟩:=nf (h1.mul h2) (by omega)
 have hz : zl (mkM s 0 * mkM t 0) ≤ 400:=by
  have:=zl_mul (mkM s 0) (mkM t 0)
  omega
 have hr : mkR (mkM s 0 * mkM t 0) (mkE s 0 + mkE t 0) = 0:=mk_fits9 (by omega) (by omega) (by omega)
 exact ⟨hr, mk_uniq hr c1 (by rw [dq_mul, a6, b6, dq_int, dq_int, dq_int, Rat.intCast_mul])⟩
theorem dq_shift (s k : Int) : dq s k = dq s 0 * dq 1 k:=by
 have:=dq_mul s 0 1 k
 rw [Int.mul_one, Int.zero_add] at this
 exact this
theorem nf_dq {t k : Int} {v : Nat} (h : AbP t v) (hv : v ≤ 6000) : dq (mkM t 0) (mkE t 0 + k) = dq t k:=by
 obtain ⟨_, _, _, _, _, h6⟩:=nf h hv
 have:=dq_mul (mkM t 0) (mkE t 0) 1 k
 rw [Int.mul_one, h6, ← dq_shift] at this
 exact this
theorem nf_up {k : Nat} (hk : k ≤ 4300) : mkR (mkM 1 0) (mkE 1 0 + (k : Int)) = 0 ∧ mkM (mkM 1 0) (mkE 1 0 + (k : Int)) = mkM (2 ^ k) 0 ∧ mkE (mkM 1 0) (mkE 1 0 + (k : Int)) = mkE (2 ^ k) 0:=by
 have h1 : AbP 1 0:=by unfold AbP; decide
 obtain ⟨a1, a2, a3, a4, _⟩:=nf h1 (by omega)
 obtain ⟨c1, _⟩:=nf ((tm_one k).abs.1) (by omega)
 have hr : mkR (mkM 1 0) (mkE 1 0 + (k : Int)) = 0:=mk_fits9 (by omega) (by omega) (by omega)
 refine ⟨hr, mk_uniq hr c1 ?_⟩
 rw [nf_dq h1 (by omega)]
 refine dq_eq (F:=0) ?_ (by omega) (by omega)
 rw [show ((k : Int) - 0).toNat = k by omega, show ((0 : Int) - 0).toNat = 0 by omega]
 simp
theorem nf_down {s : Int} {v k : Nat} (h : AbP s v) (hv : v ≤ 5000) (hk : k ≤ 5000) : mkR (mkM s 0) (mkE s 0 + -(k : Int)) = 0 ∧ Dv (mkM (mkM s 0) (mkE s 0 + -(k : Int))) (mkE (mkM s 0) (mkE s 0 + -(k : Int))) ∧ dq (mkM (mkM s 0) (mkE s 0 + -(k : Int))) (mkE (mkM s 0) (mkE s 0 + -(k : Int))) = dq s (-(k : Int)) ∧
  zl (mkM (mkM s 0) (mkE s 0 + -(k : Int))) ≤ 200 ∧ -20000 ≤ mkE (mkM s 0) (mkE s 0 + -(k : Int)) ∧ mkE (mkM s 0) (mkE s 0 + -(k : Int)) ≤ 20000:=by
 obtain ⟨a1, a2, a3, a4, _, a6⟩:=nf h (by omega)
 have e1:=mkE_at a1 (k:=160) (by have:=h.zl; omega)
 have hr : mkR (mkM s 0) (mkE s 0 + -(k : Int)) = 0:=mk_fits9 (by omega) (by omega) (by omega)
 have z1:=zl_mk (mkM s 0) (mkE s 0 + -(k : Int))
 have e2:=mkE_at hr a2
 exact ⟨hr, mk_ok hr, by rw [dq_mk hr, nf_dq h (by omega)], by omega, by omega, by omega⟩
def sqn : Nat → Rat → Rat
 | 0, b => b
 | n + 1, b => sqn n b * sqn n b
theorem sqn_succ (n : Nat) (b : Rat) : sqn (n + 1) b = sqn n b * sqn n b:=rfl
theorem sqn_nn {n : Nat} {b : Rat} (h : 0 ≤ b) : 0 ≤ sqn n b:=by
 induction n with
 | zero => exact h
 | succ n ih => exact Rat.mul_nonneg ih ih
theorem rmul_le {a b c d : Rat} (h1 : a ≤ b) (h2 : c ≤ d) (h3 : 0 ≤ c) (h4 : 0 ≤ b) : a * c ≤ b * d:=
 Rat.le_trans (Rat.mul_le_mul_of_nonneg_right h1 h3) (Rat.mul_le_mul_of_nonneg_left h2 h4)
theorem rsq_nn (x : Rat) : 0 ≤ x * x:=by
 by_cases h3 : 0 ≤ x
 ·exact Rat.mul_nonneg h3 h3
 ·have:=Rat.mul_nonneg (show 0 ≤ -x by grind) (show 0 ≤ -x by grind)
  grind
theorem sqn_mono {n : Nat} {b c : Rat} (h : 0 ≤ b) (h2 : b ≤ c) : sqn n b ≤ sqn n c:=by
 induction n with
 | zero => exact h2
 | succ n ih => exact rmul_le ih ih (sqn_nn h) (Rat.le_trans (sqn_nn h) ih)
theorem sqn_two (n : Nat) (b : Rat) : sqn (n + 1) b = sqn n (b * b):=by
 induction n with
 | zero => rfl
 | succ n ih => rw [sqn_succ, ih, sqn_succ]
theorem sqn_mul (n : Nat) (b c : Rat) : sqn n (b * c) = sqn n b * sqn n c:=by
 induction n with
 | zero => rfl
 | succ n ih => rw [sqn_succ, sqn_succ, sqn_succ, ih]; grind
theorem sqn_one (n : Nat) : sqn n 1 = 1:=by
 induction n with
 | zero => rfl
 | succ n ih => rw [sqn_succ, ih]; grind
theorem sqn_pos {n : Nat} {b : Rat} (h : 0 < b) : 0 < sqn n b:=by
 induction n with
 | zero => exact h
 | succ n ih => exact Rat.mul_pos ih ih
def hn : Nat → Rat
 | 0 => 1
 | n + 1 => hn n / 2
theorem hn_succ (n : Nat) : hn (n + 1) = hn n / 2:=rfl
theorem hn_pos (n : Nat) : 0 < hn n:=by
 induction n with
 | zero => decide
 | succ n ih => rw [hn_succ]; grind
theorem hn_le {n k : Nat} (h : n ≤ k) : hn k ≤ hn n:=by
  induction k with
  | zero => rw [show n = 0 by omega]; exact Rat.le_refl
  | succ k ih =>
    by_cases h2 : n ≤ k
    · have:=ih h2
      have:=hn_pos k
      rw [hn_succ]
      grind
    · rw [show n = k + 1 by omega]; exact Rat.le_refl
theorem bern (n : Nat) {y : Rat} (h : -1 ≤ y) : 1 + y ≤ sqn n (1 + y * hn n):=by
  induction n generalizing y with
  | zero => show 1 + y ≤ 1 + y * 1; grind
  | succ n ih =>
    have hp:=hn_pos n
    have hq:=hn_le (Nat.zero_le n)
    have h1 : hn 0 = 1:=rfl
    refine Rat.le_trans (ih h) ?_
    rw [sqn_two, hn_succ]
    refine sqn_mono ?_ ?_
    · have : -1 * hn n ≤ y * hn n:=Rat.mul_le_mul_of_nonneg_right h (Rat.le_of_lt hp)
      grind
    · have:=rsq_nn (y * (hn n / 2))
      grind
def exF (n : Nat) (x : Rat) : Rat:=sqn n (1 + x * hn n)
theorem exF_up {n : Nat} {x : Rat} (h : 0 ≤ 1 + x * hn n) : exF n x ≤ exF (n + 1) x:=by
 unfold exF
 rw [sqn_two, hn_succ]
 refine sqn_mono h ?_
 have:=rsq_nn (x * (hn n / 2))
 grind
theorem exF_mono {n : Nat} {x y : Rat} (h : 0 ≤ 1 + x * hn n) (h2 : x ≤ y) : exF n x ≤ exF n y:=by
 refine sqn_mono h ?_
 have:=Rat.mul_le_mul_of_nonneg_right h2 (Rat.le_of_lt (hn_pos n))
 grind
theorem nat_above (x : Rat) : ∃ M : Nat, x ≤ (M : Rat) ∧ -x ≤ (M : Rat):=by
 have up : ∀ y : Rat, ∃ M : Nat, y ≤ (M : Rat):=fun y => by
  refine ⟨(y.floor + 1).toNat, ?_⟩
  have h1 : ¬ ((y.floor + 1 : Int) : Rat) ≤ y:=fun h => by
   have:=Rat.le_floor_iff.2 h
   omega
  have h2 : y ≤ ((y.floor + 1 : Int) : Rat):=Rat.le_of_lt (Rat.not_le.1 h1)
  refine Rat.le_trans h2 ?_
  have h3 : y.floor + 1 ≤ (((y.floor + 1).toNat : Nat) : Int):=Int.self_le_toNat _
  have:=Rat.intCast_le_intCast.2 h3
  rwa [Rat.intCast_natCast] at this
 obtain ⟨M, h1⟩:=up x
 obtain ⟨K, h2⟩:=up (-x)
 refine ⟨M + K, ?_, ?_⟩
 ·have : (0 : Rat) ≤ (K : Rat):=by exact_mod_cast Nat.zero_le K
  have e : ((M + K : Nat) : Rat) = (M : Rat) + (K : Rat):=by push_cast; rfl
  grind
 ·have : (0 : Rat) ≤ (M : Rat):=by exact_mod_cast Nat.zero_le M
  have e : ((M + K : Nat) : Rat) = (M : Rat) + (K : Rat):=by push_cast; rfl
  grind
theorem nat_hn (k : Nat) : (k : Rat) * hn k ≤ 1:=by
  induction k with
  | zero => rw [show ((0 : Nat) : Rat) = 0 from rfl]; grind
  | succ k ih =>
    rw [hn_succ]
    have:=hn_pos k
    have h1:=hn_le (Nat.zero_le k)
    have h0 : hn 0 = 1:=rfl
    have e : ((k + 1 : Nat) : Rat) = (k : Rat) + 1:=by push_cast; rfl
    rw [e]
    grind
theorem small_hn (x : Rat) {e : Rat} (he : 0 < e) : ∃ N, ∀ n, N ≤ n → -e ≤ x * hn n ∧ x * hn n ≤ e:=by
 obtain ⟨M, h1, h2⟩:=nat_above (x / e)
 refine ⟨M, fun n hn' => ?_⟩
 have h3:=nat_hn M
 have h4:=hn_le hn'
 have h5:=hn_pos n
 have hM : (0 : Rat) ≤ (M : Rat):=by exact_mod_cast Nat.zero_le M
 have h6 : (M : Rat) * hn n ≤ 1:=Rat.le_trans (Rat.mul_le_mul_of_nonneg_left h4 hM) h3
 have a1 : x / e * hn n ≤ (M : Rat) * hn n:=Rat.mul_le_mul_of_nonneg_right h1 (Rat.le_of_lt h5)
 have a2 : -(x / e) * hn n ≤ (M : Rat) * hn n:=Rat.mul_le_mul_of_nonneg_right h2 (Rat.le_of_lt h5)
 have b1 : x / e * hn n * e ≤ 1 * e:=Rat.mul_le_mul_of_nonneg_right (Rat.le_trans a1 h6) (Rat.le_of_lt he)
 have b2 : -(x / e) * hn n * e ≤ 1 * e:=Rat.mul_le_mul_of_nonneg_right (Rat.le_trans a2 h6) (Rat.le_of_lt he)
 have c : x / e * e = x:=by grind
 constructor
 ·have : -(x / e) * hn n * e = -(x * hn n):=by rw [show -(x / e) * hn n * e = -(x / e * e * hn n) by grind, c]
  grind
 ·have : x / e * hn n * e = x * hn n:=by rw [show x / e * hn n * e = x / e * e * hn n by grind, c]
  grind
theorem lim_le {q r C : Rat} {M : Nat} (h : ∀ n, M ≤ n → q ≤ r + C * hn n) : q ≤ r:=by
 refine Rat.not_lt.1 fun hlt => ?_
 obtain ⟨N, hN⟩:=small_hn C (show 0 < (q - r) / 2 by grind)
 have h1:=h (max M N) (Nat.le_max_left _ _)
 have h2:=(hN (max M N) (Nat.le_max_right _ _)).2
 grind
theorem exF_pos {n : Nat} {x : Rat} (h : -(1 / 2) ≤ x * hn n) : 0 < exF n x:=sqn_pos (by grind)
theorem half_base (x : Rat) : ∃ N, ∀ n, N ≤ n → -(1 / 2) ≤ x * hn n ∧ x * hn n ≤ 1 / 2:=small_hn x (by grind)
theorem exF_ups {x : Rat} {n k : Nat} (h : ∀ j, n ≤ j → -(1 / 2) ≤ x * hn j) (hk : n ≤ k) : exF n x ≤ exF k x:=by
  induction k with
  | zero => rw [show n = 0 by omega]; exact Rat.le_refl
  | succ k ih =>
    by_cases h2 : n ≤ k
    · refine Rat.le_trans (ih h2) (exF_up ?_)
      have:=h k h2
      grind
    · rw [show n = k + 1 by omega]; exact Rat.le_refl
def UpE (x b : Rat) : Prop:=∃ N, ∀ n, N ≤ n → exF n x ≤ b
def LoE (a x : Rat) : Prop:=∃ N, ∀ n, N ≤ n → a * exF n (-x) ≤ 1
theorem UpE.pos {x b : Rat} (h : UpE x b) : 0 < b:=by
 obtain ⟨N, h⟩:=h
 obtain ⟨M, hM⟩:=half_base x
 have h1:=h (max N M) (Nat.le_max_left _ _)
 have h2:=exF_pos (hM (max N M) (Nat.le_max_right _ _)).1
 grind
theorem upE_lim {x b C : Rat} {M : Nat} (h : ∀ n, M ≤ n → exF n x ≤ b + C * hn n) : UpE x b:=by
 obtain ⟨N, hN⟩:=half_base x
 refine ⟨N, fun n hn' => ?_⟩
 refine lim_le (C:=C) (M:=max M n) fun k hk => ?_
 have h1:=exF_ups (x:=x) (n:=n) (k:=k) (fun j hj => (hN j (by omega)).1) (by omega)
 exact Rat.le_trans h1 (h k (by omega))
theorem exF_prod (n : Nat) (x : Rat) : exF n x * exF n (-x) = sqn n (1 + -(x * x * hn n) * hn n):=by
 unfold exF
 rw [← sqn_mul]
 congr 1
 grind
theorem exF_pair {x : Rat} : ∃ N, ∀ n, N ≤ n → 1 - x * x * hn n ≤ exF n x * exF n (-x):=by
 obtain ⟨N, hN⟩:=small_hn (x * x) (show (0 : Rat) < 1 by grind)
 refine ⟨N, fun n h => ?_⟩
 rw [exF_prod]
 have h1:=hN n h
 have:=bern n (y := -(x * x * hn n)) (by grind)
 grind
theorem LoE.le {a x b : Rat} (h1 : LoE a x) (h2 : UpE x b) : a ≤ b:=by
 have hb:=h2.pos
 by_cases ha : a ≤ 0
 ·grind
 obtain ⟨N1, h1⟩:=h1
 obtain ⟨N2, h2⟩:=h2
 obtain ⟨N3, h3⟩:=exF_pair (x:=x)
 obtain ⟨N4, h4⟩:=half_base x
 refine lim_le (C:=a * (x * x)) (M:=N1 + N2 + N3 + N4) fun n hn' => ?_
 have a1:=h1 n (by omega)
 have a2:=h2 n (by omega)
 have a3:=h3 n (by omega)
 have a4:=exF_pos (h4 n (by omega)).1
 have b1 : a * exF n (-x) * exF n x ≤ 1 * exF n x:=Rat.mul_le_mul_of_nonneg_right a1 (Rat.le_of_lt a4)
 have b2 : a * (1 - x * x * hn n) ≤ a * (exF n x * exF n (-x)):=Rat.mul_le_mul_of_nonneg_left a3 (by grind)
 grind
theorem UpE.up {x b c : Rat} (h : UpE x b) (hc : b ≤ c) : UpE x c:=by
 obtain ⟨N, h⟩:=h
 exact ⟨N, fun n hn' => Rat.le_trans (h n hn') hc⟩
theorem UpE.mono {x y b : Rat} (h : UpE y b) (hxy : x ≤ y) : UpE x b:=by
 obtain ⟨N, h⟩:=h
 obtain ⟨M, hM⟩:=half_base x
 refine ⟨N + M, fun n hn' => Rat.le_trans (exF_mono ?_ hxy) (h n (by omega))⟩
 have:=hM n (by omega)
 grind
theorem LoE.down {x a c : Rat} (h : LoE a x) (hc : c ≤ a) : LoE c x:=by
 obtain ⟨N, h⟩:=h
 obtain ⟨M, hM⟩:=half_base (-x)
 refine ⟨N + M, fun n hn' => ?_⟩
 have h2:=exF_pos (hM n (by omega)).1
 exact Rat.le_trans (Rat.mul_le_mul_of_nonneg_right hc (Rat.le_of_lt h2)) (h n (by omega))
theorem LoE.zero (x : Rat) : LoE 0 x:=⟨0, fun n _ => by grind⟩
theorem LoE.mono {x y a : Rat} (h : LoE a x) (hxy : x ≤ y) (ha : 0 ≤ a) : LoE a y:=by
 obtain ⟨N, h⟩:=h
 obtain ⟨M, hM⟩:=half_base (-y)
 refine ⟨N + M, fun n hn' => Rat.le_trans (Rat.mul_le_mul_of_nonneg_left (exF_mono ?_ (by grind)) ha) (h n (by omega))⟩
 have:=hM n (by omega)
 grind
theorem UpE.neg {x b : Rat} (h : UpE x b) : LoE b⁻¹ (-x):=by
 have hb:=h.pos
 obtain ⟨N, h⟩:=h
 refine ⟨N, fun n hn' => ?_⟩
 rw [Rat.neg_neg]
 have h1:=h n hn'
 have h2 : 0 < b⁻¹:=Rat.inv_pos.2 hb
 have:=Rat.mul_le_mul_of_nonneg_left h1 (Rat.le_of_lt h2)
 rw [Rat.inv_mul_cancel b (by grind)] at this
 exact this
theorem LoE.neg {x a : Rat} (h : LoE a x) (ha : 0 < a) : UpE (-x) a⁻¹:=by
 obtain ⟨N, h⟩:=h
 refine ⟨N, fun n hn' => ?_⟩
 have h1:=h n hn'
 have h2 : 0 < a⁻¹:=Rat.inv_pos.2 ha
 have:=Rat.mul_le_mul_of_nonneg_left h1 (Rat.le_of_lt h2)
 rw [← Rat.mul_assoc, Rat.inv_mul_cancel a (by grind)] at this
 grind
theorem UpE.add {x y b c : Rat} (h : UpE x b) (k : UpE y c) : UpE (x + y) (b * c):=by
 have hb:=h.pos
 have hc:=k.pos
 obtain ⟨N1, h⟩:=h
 obtain ⟨N2, k⟩:=k
 obtain ⟨M1, hM1⟩:=half_base x
 obtain ⟨M2, hM2⟩:=half_base y
 obtain ⟨M3, hM3⟩:=half_base (x + y)
 -- a bound of |x y|
 obtain ⟨P, hP1, hP2⟩:=nat_above (x * y)
 have hP0 : (0 : Rat) ≤ (P : Rat):=by exact_mod_cast Nat.zero_le P
 obtain ⟨M4, hM4⟩:=small_hn (2 * (P : Rat)) (show (0 : Rat) < 1 by grind)
 refine ⟨M3, fun n hn3 => ?_⟩
 obtain ⟨F, hF⟩:=nm9 (exF n (x + y))
 rw [hF]
 refine lim_le (C:=F * (2 * (P : Rat))) (M:=N1 + N2 + M1 + M2 + M4 + n) fun m hm => ?_
 have e0:=hn_pos m
 have a1:=h m (by omega)
 have a2:=k m (by omega)
 have a3:=hM1 m (by omega)
 have a4:=hM2 m (by omega)
 have a5:=hM3 m (by omega)
 have a6:=hM4 m (by omega)
 have b1:=exF_ups (x:=x + y) (n:=n) (k:=m) (fun j hj => (hM3 j (by omega)).1) (by omega)
 have b2:=exF_pos a3.1
 have b3:=exF_pos a4.1
 have b4:=exF_pos a5.1
 have b5:=exF_pos (hM3 n hn3).1
 rw [hF] at b1 b5
 -- (1 + (x + y) h) (1 - 2 P h h) is at most the product
 have q1 : (1 + (x + y) * hn m) * (1 + -(2 * (P : Rat) * hn m) * hn m) ≤ (1 + x * hn m) * (1 + y * hn m):=by
  have w1 : 0 ≤ hn m * hn m:=rsq_nn _
  have w2:=Rat.mul_le_mul_of_nonneg_right hP2 w1
  have w3 : (P : Rat) * (hn m * hn m) ≤ (1 + (x + y) * hn m) * (2 * ((P : Rat) * (hn m * hn m))):=by
   have w4 : 0 ≤ (P : Rat) * (hn m * hn m):=Rat.mul_nonneg hP0 w1
   have:=Rat.mul_le_mul_of_nonneg_right (show (1 : Rat) ≤ 2 * (1 + (x + y) * hn m) by grind) w4
   grind
  grind
 have q2:=sqn_mono (n:=m) (Rat.mul_nonneg (show 0 ≤ 1 + (x + y) * hn m by grind) (show 0 ≤ 1 + -(2 * (P : Rat) * hn m) * hn m by
  have w1 : hn m ≤ 1:=hn_le (Nat.zero_le m)
  have w2:=Rat.mul_le_mul_of_nonneg_right a6.2 (Rat.le_of_lt e0)
  grind)) q1
 rw [sqn_mul, sqn_mul] at q2
 have q3:=bern m (y := -(2 * (P : Rat) * hn m)) (by grind)
 have q4 : exF m (x + y) * (1 + -(2 * (P : Rat) * hn m)) ≤ exF m (x + y) * sqn m (1 + -(2 * (P : Rat) * hn m) * hn m):=Rat.mul_le_mul_of_nonneg_left q3 (Rat.le_of_lt b4)
 have q5 : exF m x * exF m y ≤ b * c:=rmul_le a1 a2 (Rat.le_of_lt b3) (Rat.le_of_lt hb)
 have q6 : F * (1 + -(2 * (P : Rat) * hn m)) ≤ exF m (x + y) * (1 + -(2 * (P : Rat) * hn m)):=Rat.mul_le_mul_of_nonneg_right b1 (by grind)
 have q7 : exF m (x + y) * sqn m (1 + -(2 * (P : Rat) * hn m) * hn m) ≤ exF m x * exF m y:=q2
 grind
theorem LoE.add {x y a c : Rat} (h : LoE a x) (k : LoE c y) (ha : 0 < a) (hc : 0 < c) : LoE (a * c) (x + y):=by
 have h1:=(h.neg ha).add (k.neg hc)
 have h2:=h1.neg
 rw [show -(-x + -y) = x + y by grind] at h2
 have e : (a⁻¹ * c⁻¹)⁻¹ = a * c:=by
  have : a ≠ 0:=by grind
  have : c ≠ 0:=by grind
  grind
 rwa [e] at h2
def tm : Nat → Rat → Rat
 | 0, _ => 1
 | k + 1, t => tm k t * t / ((k : Rat) + 1)
def esm : Nat → Rat → Rat
 | 0, _ => 0
 | k + 1, t => esm k t + tm k t
theorem nat_nn (k : Nat) : (0 : Rat) ≤ (k : Rat):=by exact_mod_cast Nat.zero_le k
theorem tm_mul (k : Nat) (t : Rat) : tm (k + 1) t * ((k : Rat) + 1) = tm k t * t:=by
 show tm k t * t / ((k : Rat) + 1) * ((k : Rat) + 1) = tm k t * t
 have:=nat_nn k
 exact Rat.div_mul_cancel (by grind)
theorem div_nn {a b : Rat} (h : 0 ≤ a) (h2 : 0 < b) : 0 ≤ a / b:=by
 rw [Rat.div_def]
 exact Rat.mul_nonneg h (Rat.le_of_lt (Rat.inv_pos.2 h2))
theorem tm_nn (k : Nat) {t : Rat} (h : 0 ≤ t) : 0 ≤ tm k t:=by
  induction k with
  | zero => show (0 : Rat) ≤ 1; grind
  | succ k ih =>
    have:=nat_nn k
    exact div_nn (Rat.mul_nonneg ih h) (by grind)
theorem esm_nn (k : Nat) {t : Rat} (h : 0 ≤ t) : 0 ≤ esm k t:=by
  induction k with
  | zero => show (0 : Rat) ≤ 0; grind
  | succ k ih =>
    have:=tm_nn k h
    show 0 ≤ esm k t + tm k t
    grind
theorem le_of_mul {a b c : Rat} (hc : 0 < c) (h : a * c ≤ b * c) : a ≤ b:=by
 refine Rat.not_lt.1 fun hlt => ?_
 have:=Rat.mul_lt_mul_of_pos_right hlt hc
 grind
theorem tm_diff (k : Nat) {s h : Rat} (hs : 0 ≤ s) (hh : 0 ≤ h) : h * tm k s ≤ tm (k + 1) (s + h) - tm (k + 1) s ∧ tm (k + 1) (s + h) - tm (k + 1) s ≤ h * tm k (s + h):=by
  induction k with
  | zero =>
    have e : ∀ x : Rat, tm 1 x = x:=fun x => by
      have:=tm_mul 0 x
      rw [show tm 0 x = 1 from rfl, show ((0 : Nat) : Rat) = 0 from rfl] at this
      grind
    rw [e, e, show tm 0 s = 1 from rfl, show tm 0 (s + h) = 1 from rfl]
    grind
  | succ k ih =>
    have h0:=nat_nn k
    have a1:=tm_mul (k + 1) (s + h)
    have a2:=tm_mul (k + 1) s
    have a3:=tm_mul k (s + h)
    have a4:=tm_mul k s
    have e : ((k + 1 : Nat) : Rat) = (k : Rat) + 1:=by push_cast; rfl
    rw [e] at a1 a2
    have b0:=tm_nn k hs
    have b1:=tm_nn (k + 1) hs
    have b2:=tm_nn k (show 0 ≤ s + h by grind)
    have b3:=tm_nn (k + 1) (show 0 ≤ s + h by grind)
    have m1 : tm (k + 1) s ≤ tm (k + 1) (s + h):=by
      have:=Rat.mul_nonneg hh b0
      grind
    have c1:=Rat.mul_le_mul_of_nonneg_right ih.1 (show 0 ≤ s + h by grind)
    have c2:=Rat.mul_le_mul_of_nonneg_right ih.2 (show 0 ≤ s + h by grind)
    have c3:=Rat.mul_nonneg (Rat.mul_nonneg hh b0) hh
    have c4:=Rat.mul_le_mul_of_nonneg_left m1 hh
    have a5 : h * (tm (k + 1) s * ((k : Rat) + 1)) = h * (tm k s * s):=by rw [a4]
    have a6 : h * (tm (k + 1) (s + h) * ((k : Rat) + 1)) = h * (tm k (s + h) * (s + h)):=by rw [a3]
    constructor
    · refine le_of_mul (show 0 < (k : Rat) + 1 + 1 by grind) ?_
      grind
    · refine le_of_mul (show 0 < (k : Rat) + 1 + 1 by grind) ?_
      grind
theorem tm_mono (k : Nat) {s h : Rat} (hs : 0 ≤ s) (hh : 0 ≤ h) : tm k s ≤ tm k (s + h):=by
  match k with
  | 0 => exact Rat.le_refl
  | k + 1 =>
    have:=(tm_diff k hs hh).1
    have:=Rat.mul_nonneg hh (tm_nn k hs)
    grind
theorem esm_mono (k : Nat) {s h : Rat} (hs : 0 ≤ s) (hh : 0 ≤ h) : esm k s ≤ esm k (s + h):=by
  induction k with
  | zero => exact Rat.le_refl
  | succ k ih =>
    have:=tm_mono k hs hh
    show esm k s + tm k s ≤ esm k (s + h) + tm k (s + h)
    grind
theorem esm_diff (k : Nat) {s h : Rat} (hs : 0 ≤ s) (hh : 0 ≤ h) : h * esm k s ≤ esm (k + 1) (s + h) - esm (k + 1) s ∧ esm (k + 1) (s + h) - esm (k + 1) s ≤ h * esm k (s + h):=by
  induction k with
  | zero =>
    show h * 0 ≤ 0 + 1 - (0 + 1) ∧ 0 + 1 - (0 + 1) ≤ h * 0
    grind
  | succ k ih =>
    have d:=tm_diff k hs hh
    show h * (esm k s + tm k s) ≤ esm (k + 1) (s + h) + tm (k + 1) (s + h) - (esm (k + 1) s + tm (k + 1) s) ∧ esm (k + 1) (s + h) + tm (k + 1) (s + h) - (esm (k + 1) s + tm (k + 1) s) ≤ h * (esm k (s + h) + tm k (s + h))
    grind
def rp (b : Rat) : Nat → Rat
 | 0 => 1
 | j + 1 => rp b j * b
theorem rp_add (b : Rat) (i j : Nat) : rp b (i + j) = rp b i * rp b j:=by
  induction j with
  | zero => show rp b i = rp b i * 1; grind
  | succ j ih =>
    show rp b (i + j) * b = rp b i * (rp b j * b)
    rw [ih]
    grind
theorem sqn_rp (n : Nat) (b : Rat) : sqn n b = rp b (2 ^ n):=by
 induction n with
 | zero => show b = 1 * b; grind
 | succ n ih => rw [sqn_succ, ih, Nat.pow_succ, Nat.mul_two, rp_add]
theorem rp_nn {b : Rat} (h : 0 ≤ b) (j : Nat) : 0 ≤ rp b j:=by
 induction j with
 | zero => show (0 : Rat) ≤ 1; grind
 | succ j ih => exact Rat.mul_nonneg ih h
theorem two_hn (n : Nat) : ((2 ^ n : Nat) : Rat) * hn n = 1:=by
  induction n with
  | zero => show ((1 : Nat) : Rat) * 1 = 1; rw [show ((1 : Nat) : Rat) = 1 from rfl]; grind
  | succ n ih =>
    rw [hn_succ, Nat.pow_succ]
    have e : ((2 ^ n * 2 : Nat) : Rat) = ((2 ^ n : Nat) : Rat) * 2:=by push_cast; rfl
    rw [e]
    grind
theorem esm_lo (K : Nat) {t : Rat} (ht : 0 ≤ t) : LoE (esm K t) t:=by
  obtain ⟨N, hN⟩:=small_hn t (show (0 : Rat) < 1 by grind)
  refine ⟨N, fun n hn' => ?_⟩
  have h0:=hn_pos n
  have h1:=(hN n hn').2
  obtain ⟨h, hh⟩:=nm9 (t * hn n)
  rw [hh] at h1
  have hh0 : 0 ≤ h:=by rw [← hh]; exact Rat.mul_nonneg ht (Rat.le_of_lt h0)
  have e1 : exF n (-t) = rp (1 - h) (2 ^ n):=by
    unfold exF
    rw [sqn_rp, ← hh]
    congr 1
    grind
  have e2 : ((2 ^ n : Nat) : Rat) * h = t:=by
    have:=two_hn n
    rw [← hh]
    grind
  -- step by step
  have key : ∀ j : Nat, esm K ((j : Rat) * h) * rp (1 - h) j ≤ 1:=fun j => by
    induction j with
    | zero =>
      have : ∀ K, esm K ((0 : Nat) * h) ≤ 1:=fun K => by
        have z : ((0 : Nat) : Rat) * h = 0:=by rw [show ((0 : Nat) : Rat) = 0 from rfl]; grind
        rw [z]
        match K with
        | 0 => show (0 : Rat) ≤ 1; grind
        | K + 1 =>
          have : ∀ k, tm (k + 1) 0 = 0:=fun k => by
            have h1:=tm_mul k 0
            have h2:=nat_nn k
            have h3 : tm (k + 1) 0 * ((k : Rat) + 1) = 0:=by rw [h1]; grind
            exact (Rat.mul_eq_zero.1 h3).resolve_right (by grind)
          have s1 : ∀ k, esm (k + 1) 0 = 1:=fun k => by
            induction k with
            | zero => show (0 : Rat) + 1 = 1; grind
            | succ k ih =>
              show esm (k + 1) 0 + tm (k + 1) 0 = 1
              rw [ih, this]
              grind
          rw [s1]
          exact Rat.le_refl
      show esm K ((0 : Nat) * h) * 1 ≤ 1
      have:=this K
      grind
    | succ j ih =>
      have hj : (0 : Rat) ≤ (j : Rat) * h:=Rat.mul_nonneg (nat_nn j) hh0
      have e : ((j + 1 : Nat) : Rat) * h = (j : Rat) * h + h:=by
        have : ((j + 1 : Nat) : Rat) = (j : Rat) + 1:=by push_cast; rfl
        rw [this]
        grind
      rw [e]
      show esm K ((j : Rat) * h + h) * (rp (1 - h) j * (1 - h)) ≤ 1
      have d : esm K ((j : Rat) * h + h) * (1 - h) ≤ esm K ((j : Rat) * h):=by
        match K with
        | 0 => show (0 : Rat) * (1 - h) ≤ 0; grind
        | K + 1 =>
          have d1:=(esm_diff K hj hh0).2
          have d2:=tm_nn K (show 0 ≤ (j : Rat) * h + h by grind)
          have d3:=Rat.mul_nonneg hh0 d2
          have d4 : esm (K + 1) ((j : Rat) * h + h) = esm K ((j : Rat) * h + h) + tm K ((j : Rat) * h + h):=rfl
          generalize (j : Rat) * h + h = s at *
          generalize esm (K + 1) ((j : Rat) * h) = E1 at *
          have d5 : h * esm (K + 1) s = h * esm K s + h * tm K s:=by rw [d4]; grind
          generalize esm (K + 1) s = E2 at *
          generalize esm K s = E3 at *
          generalize tm K s = T3 at *
          grind
      have p:=rp_nn (show 0 ≤ 1 - h by grind) j
      have:=Rat.mul_le_mul_of_nonneg_right d p
      grind
  have:=key (2 ^ n)
  rw [e2] at this
  rw [e1]
  exact this
theorem esm_up (K : Nat) {t : Rat} (ht : 0 ≤ t) (hK : 2 * t ≤ (K : Rat) + 1) : UpE t (esm (K + 1) t + 2 * tm (K + 1) t):=by
  refine ⟨0, fun n _ => ?_⟩
  have h0:=hn_pos n
  obtain ⟨h, hh⟩:=nm9 (t * hn n)
  have hh0 : 0 ≤ h:=by rw [← hh]; exact Rat.mul_nonneg ht (Rat.le_of_lt h0)
  have e1 : exF n t = rp (1 + h) (2 ^ n):=by
    unfold exF
    rw [sqn_rp, ← hh]
  have e2 : ((2 ^ n : Nat) : Rat) * h = t:=by
    have:=two_hn n
    rw [← hh]
    grind
  have key : ∀ j : Nat, (j : Rat) * h ≤ t → rp (1 + h) j ≤ esm (K + 1) ((j : Rat) * h) + 2 * tm (K + 1) ((j : Rat) * h):=fun j => by
    induction j with
    | zero =>
      intro _
      have z : ((0 : Nat) : Rat) * h = 0:=by rw [show ((0 : Nat) : Rat) = 0 from rfl]; grind
      rw [z]
      have a1:=tm_nn (K + 1) (show (0 : Rat) ≤ 0 by grind)
      have a2:=esm_nn K (show (0 : Rat) ≤ 0 by grind)
      have s1 : ∀ k, 1 ≤ esm (k + 1) 0:=fun k => by
        induction k with
        | zero => show (1 : Rat) ≤ 0 + 1; grind
        | succ k ih =>
          have:=tm_nn (k + 1) (show (0 : Rat) ≤ 0 by grind)
          show 1 ≤ esm (k + 1) 0 + tm (k + 1) 0
          grind
      have:=s1 K
      show (1 : Rat) ≤ _
      grind
    | succ j ih =>
      intro hj1
      have e : ((j + 1 : Nat) : Rat) * h = (j : Rat) * h + h:=by
        have : ((j + 1 : Nat) : Rat) = (j : Rat) + 1:=by push_cast; rfl
        rw [this]
        grind
      rw [e] at hj1 ⊢
      have hj : (0 : Rat) ≤ (j : Rat) * h:=Rat.mul_nonneg (nat_nn j) hh0
      have i1:=ih (by grind)
      obtain ⟨s, hs⟩:=nm9 ((j : Rat) * h)
      rw [hs] at i1 hj hj1 ⊢
      have d1:=(esm_diff K hj hh0).1
      have d2:=(tm_diff K hj hh0).1
      have d3 : esm (K + 1) s = esm K s + tm K s:=rfl
      have d4:=tm_mul K s
      have d5:=tm_nn K hj
      have d6:=tm_nn (K + 1) hj
      -- tm K s is at least twice the next term
      have d7 : 2 * tm (K + 1) s ≤ tm K s:=by
        refine le_of_mul (show 0 < (K : Rat) + 1 by have:=nat_nn K; grind) ?_
        have:=Rat.mul_le_mul_of_nonneg_left (show 2 * s ≤ (K : Rat) + 1 by grind) d5
        grind
      have d8:=Rat.mul_le_mul_of_nonneg_left d7 hh0
      show rp (1 + h) j * (1 + h) ≤ _
      have d9:=Rat.mul_le_mul_of_nonneg_right i1 (show 0 ≤ 1 + h by grind)
      have d10 : h * esm (K + 1) s = h * esm K s + h * tm K s:=by rw [d3]; grind
      clear ih hs e i1 d3 d4 d7
      generalize esm (K + 1) (s + h) = A1 at *
      generalize tm (K + 1) (s + h) = A2 at *
      generalize esm (K + 1) s = A3 at *
      generalize tm (K + 1) s = A4 at *
      generalize esm K s = A5 at *
      generalize tm K s = A6 at *
      generalize rp (1 + h) j = A7 at *
      have d11 : (A3 + 2 * A4) * (1 + h) = A3 + 2 * A4 + h * A3 + h * (2 * A4):=by grind
      rw [d11] at d9
      clear d11 e1 e2 hK ht
      grind
  have:=key (2 ^ n) (by rw [e2]; exact Rat.le_refl)
  rw [e2] at this
  rw [e1]
  exact this
def sgk : Nat → Rat
 | 0 => 1
 | k + 1 => -sgk k
theorem sgk_or (k : Nat) : sgk k = 1 ∨ sgk k = -1:=by
  induction k with
  | zero => exact Or.inl rfl
  | succ k ih =>
    rcases ih with h | h
    · exact Or.inr (by show -sgk k = -1; rw [h])
    · exact Or.inl (by show -sgk k = 1; rw [h]; grind)
theorem tm_neg (k : Nat) (t : Rat) : tm k (-t) = sgk k * tm k t:=by
  induction k with
  | zero => show (1 : Rat) = 1 * 1; grind
  | succ k ih =>
    have h0:=nat_nn k
    have h1:=tm_mul k (-t)
    have h2:=tm_mul k t
    have h3 : (tm (k + 1) (-t) - sgk (k + 1) * tm (k + 1) t) * ((k : Rat) + 1) = 0:=by
      have e : sgk (k + 1) = -sgk k:=rfl
      rw [ih] at h1
      rw [e]
      have h4 : sgk k * (tm (k + 1) t * ((k : Rat) + 1)) = sgk k * (tm k t * t):=by rw [h2]
      grind
    have:=(Rat.mul_eq_zero.1 h3).resolve_right (by grind)
    grind
def tb : Nat → Rat → Rat
 | 0, _ => 0
 | k + 1, t => tm k t
theorem tm_second (k : Nat) {s h : Rat} (hs : 0 ≤ s) (hh : 0 ≤ h) : 0 ≤ tm (k + 1) (s + h) - tm (k + 1) s - h * tm k s ∧ tm (k + 1) (s + h) - tm (k + 1) s - h * tm k s ≤ h * h * tb k (s + h):=by
  have d:=tm_diff k hs hh
  refine ⟨by grind, ?_⟩
  match k with
  | 0 =>
    have e1 : tm 0 s = 1:=rfl
    have e2 : tm 0 (s + h) = 1:=rfl
    have e3 : tb 0 (s + h) = 0:=rfl
    rw [e2] at d
    rw [e1, e3]
    grind
  | k + 1 =>
    have d2:=Rat.mul_le_mul_of_nonneg_left (tm_diff k hs hh).2 hh
    have e3 : tb (k + 1) (s + h) = tm k (s + h):=rfl
    rw [e3]
    grind
def esb : Nat → Rat → Rat
 | 0, _ => 0
 | k + 1, t => esb k t + tb k t
theorem esb_succ (k : Nat) (t : Rat) : esb (k + 1) t = esm k t:=by
  induction k with
  | zero => show (0 : Rat) + 0 = 0; grind
  | succ k ih =>
    show esb (k + 1) t + tm k t = esm k t + tm k t
    rw [ih]
theorem esb_le (k : Nat) {t : Rat} (h : 0 ≤ t) : esb k t ≤ esm k t:=by
  match k with
  | 0 => exact Rat.le_refl
  | k + 1 =>
    rw [esb_succ]
    have:=tm_nn k h
    show esm k t ≤ esm k t + tm k t
    grind
theorem esm_second (K : Nat) {s h : Rat} (hs : 0 ≤ s) (hh : 0 ≤ h) : -(h * h * esb K (s + h)) ≤ esm (K + 1) (-(s + h)) - esm (K + 1) (-s) + h * esm K (-s) ∧ esm (K + 1) (-(s + h)) - esm (K + 1) (-s) + h * esm K (-s) ≤ h * h * esb K (s + h):=by
  induction K with
  | zero =>
    show -(h * h * 0) ≤ 0 + 1 - (0 + 1) + h * 0 ∧ 0 + 1 - (0 + 1) + h * 0 ≤ h * h * 0
    grind
  | succ K ih =>
    obtain ⟨a1, a2⟩:=tm_second K hs hh
    have e1 : esm (K + 1 + 1) (-(s + h)) = esm (K + 1) (-(s + h)) + tm (K + 1) (-(s + h)):=rfl
    have e2 : esm (K + 1 + 1) (-s) = esm (K + 1) (-s) + tm (K + 1) (-s):=rfl
    have e3 : h * esm (K + 1) (-s) = h * esm K (-s) + h * tm K (-s):=by
      show h * (esm K (-s) + tm K (-s)) = _
      grind
    have e4 : h * h * esb (K + 1) (s + h) = h * h * esb K (s + h) + h * h * tb K (s + h):=by
      show h * h * (esb K (s + h) + tb K (s + h)) = _
      grind
    have e5 : sgk (K + 1) = -sgk K:=rfl
    have t1:=tm_neg (K + 1) (s + h)
    have t2:=tm_neg (K + 1) s
    have t3:=tm_neg K s
    rw [e1, e2, e3, e4]
    rcases sgk_or K with g | g
    · rw [e5, g] at t1 t2
      rw [g] at t3
      rw [t1, t2, t3]
      grind
    · rw [e5, g] at t1 t2
      rw [g] at t3
      rw [t1, t2, t3]
      grind
theorem esm_at0 (k : Nat) : esm (k + 1) (-0) = 1:=by
  have : ∀ k, tm (k + 1) (-0) = 0:=fun k => by
    have h1:=tm_mul k (-0)
    have h2:=nat_nn k
    have h3 : tm (k + 1) (-0) * ((k : Rat) + 1) = 0:=by rw [h1]; grind
    exact (Rat.mul_eq_zero.1 h3).resolve_right (by grind)
  induction k with
  | zero => show (0 : Rat) + 1 = 1; grind
  | succ k ih =>
    show esm (k + 1) (-0) + tm (k + 1) (-0) = 1
    rw [ih, this]
    grind
theorem neg_step (K : Nat) {t h : Rat} (hh : 0 ≤ h) (h1 : h ≤ 1) (j : Nat) (hj : (j : Rat) * h ≤ t) :
    rp (1 - h) j ≤ esm (K + 1) (-((j : Rat) * h)) + tm (K + 1) ((j : Rat) * h) + esm K t * (h * h) * (j : Rat) ∧
    esm (K + 1) (-((j : Rat) * h)) - tm (K + 1) ((j : Rat) * h) - esm K t * (h * h) * (j : Rat) ≤ rp (1 - h) j:=by
  induction j with
  | zero =>
    have z : ((0 : Nat) : Rat) * h = 0:=by rw [show ((0 : Nat) : Rat) = 0 from rfl]; grind
    have z2 : ((0 : Nat) : Rat) = 0:=rfl
    rw [z, esm_at0, z2]
    have:=tm_nn (K + 1) (show (0 : Rat) ≤ 0 by grind)
    show (1 : Rat) ≤ _ ∧ _ ≤ (1 : Rat)
    grind
  | succ j ih =>
    have e0 : ((j + 1 : Nat) : Rat) = (j : Rat) + 1:=by push_cast; rfl
    have e : ((j + 1 : Nat) : Rat) * h = (j : Rat) * h + h:=by rw [e0]; grind
    rw [e] at hj
    rw [e, e0]
    have hj0 : (0 : Rat) ≤ (j : Rat) * h:=Rat.mul_nonneg (nat_nn j) hh
    obtain ⟨i1, i2⟩:=ih (by grind)
    have hjn:=nat_nn j
    obtain ⟨s, hs⟩:=nm9 ((j : Rat) * h)
    rw [hs] at i1 i2 hj hj0 ⊢
    obtain ⟨d1, d2⟩:=esm_second K hj0 hh
    have d3:=(tm_diff K hj0 hh).1
    have d4 : h * esm (K + 1) (-s) = h * esm K (-s) + h * tm K (-s):=by
      show h * (esm K (-s) + tm K (-s)) = _
      grind
    have d5:=tm_neg K s
    have d6:=Rat.mul_nonneg hh (tm_nn K hj0)
    have d7:=Rat.mul_nonneg hh (tm_nn (K + 1) hj0)
    have d8 : h * h * esb K (s + h) ≤ h * h * esm K t:=by
      refine Rat.mul_le_mul_of_nonneg_left ?_ (rsq_nn h)
      refine Rat.le_trans (esb_le K (by grind)) ?_
      have:=esm_mono K (s:=s + h) (h:=t - (s + h)) (by grind) (by grind)
      rwa [show s + h + (t - (s + h)) = t by grind] at this
    have d9 : 0 ≤ esm K t * (h * h) * (j : Rat):=Rat.mul_nonneg (Rat.mul_nonneg (esm_nn K (by grind)) (rsq_nn h)) hjn
    have d10:=Rat.mul_nonneg d9 hh
    have c1:=Rat.mul_le_mul_of_nonneg_right i1 (show 0 ≤ 1 - h by grind)
    have c2:=Rat.mul_le_mul_of_nonneg_right i2 (show 0 ≤ 1 - h by grind)
    show rp (1 - h) j * (1 - h) ≤ _ ∧ _ ≤ rp (1 - h) j * (1 - h)
    have d11 : h * tm K (-s) = h * tm K s ∨ h * tm K (-s) = -(h * tm K s):=by
      rcases sgk_or K with g | g
      · rw [g] at d5; rw [d5]; left; grind
      · rw [g] at d5; rw [d5]; right; grind
    clear d5 ih e hs e0 i1 i2
    generalize esm (K + 1) (-(s + h)) = A1 at *
    generalize tm (K + 1) (s + h) = A2 at *
    generalize esm (K + 1) (-s) = A3 at *
    generalize tm (K + 1) s = A4 at *
    generalize esm K (-s) = A5 at *
    generalize h * tm K (-s) = A6 at *
    generalize h * tm K s = A7 at *
    generalize rp (1 - h) j * (1 - h) = A8 at *
    generalize esm K t = A9 at *
    generalize esb K (s + h) = B1 at *
    constructor
    · rcases d11 with g | g <;> grind
    · rcases d11 with g | g <;> grind
theorem exF_rp (n : Nat) (t : Rat) : exF n (-t) = rp (1 - t * hn n) (2 ^ n):=by
 unfold exF
 rw [sqn_rp]
 congr 1
 grind
theorem neg_both (K : Nat) {t : Rat} (ht : 0 ≤ t) : ∃ N, ∀ n, N ≤ n → exF n (-t) ≤ esm (K + 1) (-t) + tm (K + 1) t + esm K t * (t * t) * hn n ∧ esm (K + 1) (-t) - tm (K + 1) t - esm K t * (t * t) * hn n ≤ exF n (-t):=by
 obtain ⟨N, hN⟩:=small_hn t (show (0 : Rat) < 1 by grind)
 refine ⟨N, fun n hn' => ?_⟩
 have h0:=hn_pos n
 have h1:=(hN n hn').2
 have e2 : ((2 ^ n : Nat) : Rat) * (t * hn n) = t:=by
  have:=two_hn n
  grind
 have key:=neg_step K (t:=t) (h:=t * hn n) (Rat.mul_nonneg ht (Rat.le_of_lt h0)) h1 (2 ^ n) (by rw [e2]; exact Rat.le_refl)
 rw [e2] at key
 have e3 : esm K t * (t * hn n * (t * hn n)) * ((2 ^ n : Nat) : Rat) = esm K t * (t * t) * hn n:=by
  have : esm K t * (t * hn n * (t * hn n)) * ((2 ^ n : Nat) : Rat) = esm K t * (((2 ^ n : Nat) : Rat) * (t * hn n)) * (t * hn n):=by grind
  rw [this, e2]
  grind
 rw [e3] at key
 rw [exF_rp]
 exact key
theorem neg_up (K : Nat) {t : Rat} (ht : 0 ≤ t) : UpE (-t) (esm (K + 1) (-t) + tm (K + 1) t):=by
 obtain ⟨N, h⟩:=neg_both K ht
 exact upE_lim (C:=esm K t * (t * t)) (M:=N) fun n hn' => (h n hn').1
theorem upE_some (x : Rat) : ∃ b, UpE x b:=by
 obtain ⟨M, h1, _⟩:=nat_above (2 * x)
 by_cases h : 0 ≤ x
 ·exact ⟨_, esm_up M h (by grind)⟩
 ·refine ⟨1, UpE.mono (y:=0) ⟨0, fun n _ => ?_⟩ (by grind)⟩
  unfold exF
  rw [show (1 : Rat) + 0 * hn n = 1 by grind, sqn_one]
  exact Rat.le_refl
theorem pair_le {x : Rat} : ∃ N, ∀ n, N ≤ n → exF n x * exF n (-x) ≤ 1:=by
 obtain ⟨N, hN⟩:=half_base x
 refine ⟨N, fun n hn' => ?_⟩
 have h:=hN n hn'
 have h0:=hn_pos n
 unfold exF
 rw [← sqn_mul]
 have e : (1 + x * hn n) * (1 + -x * hn n) = 1 - (x * hn n) * (x * hn n):=by grind
 rw [e]
 have s:=rsq_nn (x * hn n)
 have s2 : (x * hn n) * (x * hn n) ≤ 1:=by
  by_cases p : 0 ≤ x * hn n
  ·have:=rmul_le h.2 h.2 p (by grind)
   grind
  ·have:=rmul_le (show -(x * hn n) ≤ 1 / 2 by grind) (show -(x * hn n) ≤ 1 / 2 by grind) (by grind) (by grind)
   grind
 have:=sqn_mono (n:=n) (show 0 ≤ 1 - (x * hn n) * (x * hn n) by grind) (show 1 - (x * hn n) * (x * hn n) ≤ 1 by grind)
 rwa [sqn_one] at this
theorem neg_lo (K : Nat) {t : Rat} (ht : 0 ≤ t) : LoE (esm (K + 1) (-t) - tm (K + 1) t) (-t):=by
 obtain ⟨W, hW⟩:=nm9 (esm (K + 1) (-t) - tm (K + 1) t)
 rw [hW]
 by_cases hw : W ≤ 0
 ·exact (LoE.zero _).down hw
 obtain ⟨N1, h1⟩:=neg_both K ht
 rw [hW] at h1
 obtain ⟨N2, h2⟩:=pair_le (x:=t)
 obtain ⟨b, N3, h3⟩:=upE_some t
 obtain ⟨N4, h4⟩:=half_base t
 obtain ⟨C, hC⟩:=nm9 (esm K t * (t * t))
 rw [hC] at h1
 have hC0 : 0 ≤ C:=by rw [← hC]; exact Rat.mul_nonneg (esm_nn K ht) (rsq_nn t)
 refine ⟨N4, fun n hn' => ?_⟩
 rw [Rat.neg_neg]
 refine lim_le (C:=C * b) (M:=N1 + N2 + N3 + n) fun m hm => ?_
 have e0:=hn_pos m
 have a1:=(h1 m (by omega)).2
 have a2:=h2 m (by omega)
 have a3:=h3 m (by omega)
 have a4:=exF_pos (h4 m (by omega)).1
 have a5:=exF_ups (x:=t) (n:=n) (k:=m) (fun j hj => (h4 j (by omega)).1) (by omega)
 have b1:=Rat.mul_le_mul_of_nonneg_left a5 (show 0 ≤ W by grind)
 have b2:=Rat.mul_le_mul_of_nonneg_right a1 (Rat.le_of_lt a4)
 have b3:=Rat.mul_le_mul_of_nonneg_left a3 (Rat.mul_nonneg hC0 (Rat.le_of_lt e0))
 grind
def rab (x : Rat) : Rat:=if 0 ≤ x then x else -x
theorem rab_nn (x : Rat) : 0 ≤ rab x:=by unfold rab; split <;> grind
theorem exp_up (K : Nat) {x : Rat} (h : 2 * rab x ≤ (K : Rat) + 1) : UpE x (esm (K + 1) x + 2 * tm (K + 1) (rab x)):=by
 by_cases hx : 0 ≤ x
 ·have e : rab x = x:=by unfold rab; rw [if_pos hx]
  rw [e] at h ⊢
  exact esm_up K hx h
 ·have e : rab x = -x:=by unfold rab; rw [if_neg hx]
  have h1:=neg_up K (t := -x) (by grind)
  rw [Rat.neg_neg] at h1
  rw [e]
  have:=tm_nn (K + 1) (t := -x) (by grind)
  exact h1.up (by grind)
theorem exp_lo (K : Nat) (x : Rat) : LoE (esm (K + 1) x - tm (K + 1) (rab x)) x:=by
 by_cases hx : 0 ≤ x
 ·have e : rab x = x:=by unfold rab; rw [if_pos hx]
  rw [e]
  have:=tm_nn (K + 1) hx
  exact (esm_lo (K + 1) hx).down (by grind)
 ·have e : rab x = -x:=by unfold rab; rw [if_neg hx]
  have h1:=neg_lo K (t := -x) (by grind)
  rw [Rat.neg_neg] at h1
  rw [e]
  exact h1
theorem UpE.rp {x b : Rat} (h : UpE x b) (k : Nat) : UpE ((k : Rat) * x) (rp b k):=by
  induction k with
  | zero =>
    refine ⟨0, fun n _ => ?_⟩
    unfold exF
    rw [show (1 : Rat) + ((0 : Nat) : Rat) * x * hn n = 1 by rw [show ((0 : Nat) : Rat) = 0 from rfl]; grind, sqn_one]
    exact Rat.le_refl
  | succ k ih =>
    have:=ih.add h
    rwa [show (k : Rat) * x + x = ((k + 1 : Nat) : Rat) * x by rw [show ((k + 1 : Nat) : Rat) = (k : Rat) + 1 by push_cast; rfl]; grind] at this
theorem rp_pos {b : Rat} (h : 0 < b) (j : Nat) : 0 < rp b j:=by
 induction j with
 | zero => show (0 : Rat) < 1; grind
 | succ j ih => exact Rat.mul_pos ih h
theorem LoE.rp {x a : Rat} (h : LoE a x) (ha : 0 < a) (k : Nat) : LoE (rp a k) ((k : Rat) * x):=by
  induction k with
  | zero =>
    refine ⟨0, fun n _ => ?_⟩
    unfold exF
    rw [show (1 : Rat) + -(((0 : Nat) : Rat) * x) * hn n = 1 by rw [show ((0 : Nat) : Rat) = 0 from rfl]; grind, sqn_one]
    show (1 : Rat) * 1 ≤ 1
    grind
  | succ k ih =>
    have:=ih.add h (rp_pos ha k) ha
    rwa [show (k : Rat) * x + x = ((k + 1 : Nat) : Rat) * x by rw [show ((k + 1 : Nat) : Rat) = (k : Rat) + 1 by push_cast; rfl]; grind] at this
theorem exp_line (x : Rat) : LoE (1 + x) x:=by
 by_cases hx : -1 ≤ x
 ·obtain ⟨N, h⟩:=pair_le (x:=x)
  obtain ⟨M, hM⟩:=half_base (-x)
  refine ⟨N + M, fun n hn' => ?_⟩
  have h1:=h n (by omega)
  have h2:=exF_pos (hM n (by omega)).1
  have h3:=bern n hx
  have h4:=Rat.mul_le_mul_of_nonneg_right h3 (Rat.le_of_lt h2)
  have e : sqn n (1 + x * hn n) = exF n x:=rfl
  rw [e] at h4
  exact Rat.le_trans h4 h1
 ·exact (LoE.zero x).down (by grind)
theorem exp_0 : LoE 1 0 ∧ UpE 0 1:=by
 refine ⟨?_, ⟨0, fun n _ => ?_⟩⟩
 ·have:=exp_line 0
  rwa [show (1 : Rat) + 0 = 1 by grind] at this
 ·unfold exF
  rw [show (1 : Rat) + 0 * hn n = 1 by grind, sqn_one]
  exact Rat.le_refl
theorem UpE.of_all {x b : Rat} (h : ∀ e, 0 < e → UpE x (b + e)) : UpE x b:=by
 obtain ⟨N, hN⟩:=half_base x
 refine ⟨N, fun n hn' => ?_⟩
 refine Rat.not_lt.1 fun hlt => ?_
 obtain ⟨M, h1⟩:=h ((exF n x - b) / 2) (by grind)
 have h2:=h1 (max M n) (Nat.le_max_left _ _)
 have h3:=exF_ups (x:=x) (n:=n) (k:=max M n) (fun j hj => (hN j (by omega)).1) (Nat.le_max_right _ _)
 grind
theorem UpE.sub {x y b c : Rat} (h : UpE x b) (k : LoE c y) (hc : 0 < c) : UpE (x - y) (b * c⁻¹):=by
 have:=h.add (k.neg hc)
 rwa [show x + -y = x - y by grind] at this
theorem LoE.sub {x y a c : Rat} (h : LoE a x) (ha : 0 < a) (k : UpE y c) : LoE (a * c⁻¹) (x - y):=by
 have:=h.add k.neg ha (Rat.inv_pos.2 k.pos)
 rwa [show x + -y = x - y by grind] at this
def SpC (a b : Int) (v : Nat) (q : Rat) : Prop:=dq a (-(v : Int)) ≤ q ∧ q ≤ dq b (-(v : Int))
theorem SpC.le {a b : Int} {v : Nat} {q : Rat} (h : SpC a b v q) : a ≤ b:=(dq_le_iff _ _ _).1 (Rat.le_trans h.1 h.2)
theorem dq_addI (a b e : Int) : dq (a + b) e = dq a e + dq b e:=by
 rw [dq_scale, dq_scale a, dq_scale b, Rat.intCast_add, Rat.add_mul]
theorem SpC.add {a b c d : Int} {v : Nat} {q r : Rat} (h : SpC a b v q) (k : SpC c d v r) : SpC (a + c) (b + d) v (q + r):=by
 obtain ⟨h1, h2⟩:=h
 obtain ⟨k1, k2⟩:=k
 unfold SpC
 rw [dq_addI, dq_addI]
 grind
theorem SpC.neg {a b : Int} {v : Nat} {q : Rat} (h : SpC a b v q) : SpC (-b) (-a) v (-q):=by
 obtain ⟨h1, h2⟩:=h
 unfold SpC
 rw [dq_neg, dq_neg]
 grind
theorem SpC.of (n : Int) (v : Nat) : SpC (n * 2 ^ v) (n * 2 ^ v) v (n : Rat):=by
 have e : dq (n * 2 ^ v) (-(v : Int)) = (n : Rat):=by
  rw [← dq_int]
  refine dq_eq (F := -(v : Int)) ?_ (by omega) (by omega)
  rw [show (-(v : Int) - -(v : Int)).toNat = 0 by omega, show (0 - -(v : Int)).toNat = v by omega]
  simp
 unfold SpC
 rw [e]
 exact ⟨Rat.le_refl, Rat.le_refl⟩
theorem SpC.at (q : Rat) (v : Nat) : SpC (cutQ q (v : Int)) (-(cutQ (-q) (v : Int))) v q:=by
 refine ⟨cut_lo q _, ?_⟩
 have:=cut_lo (-q) (v : Int)
 rw [dq_neg]
 grind
theorem fdiv_le {x n : Int} (hn : 0 < n) (e : Int) : dq (x / n) e * (n : Rat) ≤ dq x e:=by
 have h:=Int.ediv_mul_le x (show n ≠ 0 by omega)
 have:=(dq_le_iff (x / n * n) x e).2 h
 rw [dq_scale, Rat.intCast_mul] at this
 rw [dq_scale (x / n)]
 grind
theorem le_cdiv {x n : Int} (hn : 0 < n) (e : Int) : dq x e ≤ dq (cdv x n) e * (n : Rat):=by
 have h:=le_cdv (x:=x) hn
 have:=(dq_le_iff x (cdv x n * n) e).2 h
 rw [dq_scale (cdv x n * n), Rat.intCast_mul] at this
 rw [dq_scale (cdv x n)]
 grind
theorem SpC.over {a b n : Int} {v : Nat} {q : Rat} (h : SpC a b v q) (hn : 0 < n) : SpC (a / n) (cdv b n) v (q / (n : Rat)):=by
 obtain ⟨h1, h2⟩:=h
 have hp : (0 : Rat) < (n : Rat):=by exact_mod_cast hn
 have e : q / (n : Rat) * (n : Rat) = q:=Rat.div_mul_cancel (by grind)
 refine ⟨le_of_mul hp ?_, le_of_mul hp ?_⟩
 ·rw [e]; exact Rat.le_trans (fdiv_le hn _) h1
 ·rw [e]; exact Rat.le_trans h2 (le_cdiv hn _)
def mn4 (a b c d : Int) : Int:=min (min a b) (min c d)
def mx4 (a b c d : Int) : Int:=max (max a b) (max c d)
theorem two_cast (v : Nat) : (((2 : Int) ^ v : Int) : Rat) * dq 1 (-(v : Int)) = 1:=by
 rw [← dq_scale]
 have:=(SpC.of 1 v).1
 have h2:=(SpC.of 1 v).2
 rw [Int.one_mul] at this h2
 have e : ((1 : Int) : Rat) = 1:=rfl
 rw [e] at this h2
 grind
theorem shr_lo {x : Int} {v : Nat} {q : Rat} (h : (x : Rat) * (dq 1 (-(v : Int)) * dq 1 (-(v : Int))) ≤ q) : dq (x / 2 ^ v) (-(v : Int)) ≤ q:=by
 refine Rat.le_trans ?_ h
 have h1:=fdiv_le (x:=x) (n:=2 ^ v) (pow2_pos v) (-(v : Int))
 have h2:=two_cast v
 have h3:=dq_pos (-(v : Int))
 have h4:=Rat.mul_le_mul_of_nonneg_right h1 (Rat.le_of_lt h3)
 rw [dq_scale x] at h4
 have e : dq (x / 2 ^ v) (-(v : Int)) * (((2 : Int) ^ v : Int) : Rat) * dq 1 (-(v : Int)) = dq (x / 2 ^ v) (-(v : Int)):=by
  rw [Rat.mul_assoc, h2]
  grind
 rw [e] at h4
 grind
theorem shr_hi {x : Int} {v : Nat} {q : Rat} (h : q ≤ (x : Rat) * (dq 1 (-(v : Int)) * dq 1 (-(v : Int)))) : q ≤ dq (cdv x (2 ^ v)) (-(v : Int)):=by
 refine Rat.le_trans h ?_
 have h1:=le_cdiv (x:=x) (n:=2 ^ v) (pow2_pos v) (-(v : Int))
 have h2:=two_cast v
 have h3:=dq_pos (-(v : Int))
 have h4:=Rat.mul_le_mul_of_nonneg_right h1 (Rat.le_of_lt h3)
 rw [dq_scale x] at h4
 have e : dq (cdv x (2 ^ v)) (-(v : Int)) * (((2 : Int) ^ v : Int) : Rat) * dq 1 (-(v : Int)) = dq (cdv x (2 ^ v)) (-(v : Int)):=by
  rw [Rat.mul_assoc, h2]
  grind
 rw [e] at h4
 grind
theorem prod_dq (a c : Int) (v : Nat) : dq a (-(v : Int)) * dq c (-(v : Int)) = ((a * c : Int) : Rat) * (dq 1 (-(v : Int)) * dq 1 (-(v : Int))):=by
 rw [dq_scale a, dq_scale c, Rat.intCast_mul]
 grind
theorem prod_lo {a b c d : Int} {v : Nat} {q r : Rat} (h : SpC a b v q) (k : SpC c d v r) : ((mn4 (a * c) (a * d) (b * c) (b * d) : Int) : Rat) * (dq 1 (-(v : Int)) * dq 1 (-(v : Int))) ≤ q * r:=by
 obtain ⟨h1, h2⟩:=h
 obtain ⟨k1, k2⟩:=k
 have hu:=dq_pos (-(v : Int))
 have huu : 0 ≤ dq 1 (-(v : Int)) * dq 1 (-(v : Int)):=rsq_nn _
 have m : ∀ x : Int, mn4 (a * c) (a * d) (b * c) (b * d) ≤ x → ((mn4 (a * c) (a * d) (b * c) (b * d) : Int) : Rat) * (dq 1 (-(v : Int)) * dq 1 (-(v : Int))) ≤ ((x : Int) : Rat) * (dq 1 (-(v : Int)) * dq 1 (-(v : Int))):=fun x hx => Rat.mul_le_mul_of_nonneg_right (Rat.intCast_le_intCast.2 hx) huu
 have m1:=m (a * c) (by unfold mn4; omega)
 have m2:=m (a * d) (by unfold mn4; omega)
 have m3:=m (b * c) (by unfold mn4; omega)
 have m4:=m (b * d) (by unfold mn4; omega)
 rw [← prod_dq] at m1 m2 m3 m4
 generalize ((mn4 (a * c) (a * d) (b * c) (b * d) : Int) : Rat) * (dq 1 (-(v : Int)) * dq 1 (-(v : Int))) = L at *
 generalize dq a (-(v : Int)) = A at *
 generalize dq b (-(v : Int)) = B at *
 generalize dq c (-(v : Int)) = C at *
 generalize dq d (-(v : Int)) = D at *
 by_cases hr : 0 ≤ r
 ·have e1:=Rat.mul_le_mul_of_nonneg_right h1 hr
  by_cases hA : 0 ≤ A
  ·have:=Rat.mul_le_mul_of_nonneg_left k1 hA
   grind
  ·have:=Rat.mul_le_mul_of_nonneg_left k2 (show 0 ≤ -A by grind)
   grind
 ·have e1:=Rat.mul_le_mul_of_nonneg_right h2 (show 0 ≤ -r by grind)
  by_cases hB : 0 ≤ B
  ·have:=Rat.mul_le_mul_of_nonneg_left k1 hB
   grind
  ·have:=Rat.mul_le_mul_of_nonneg_left k2 (show 0 ≤ -B by grind)
   grind
theorem mx4_neg (a b c d : Int) : mx4 a b c d = -(mn4 (-a) (-b) (-c) (-d)):=by
 unfold mx4 mn4
 omega
theorem prod_hi {a b c d : Int} {v : Nat} {q r : Rat} (h : SpC a b v q) (k : SpC c d v r) : q * r ≤ ((mx4 (a * c) (a * d) (b * c) (b * d) : Int) : Rat) * (dq 1 (-(v : Int)) * dq 1 (-(v : Int))):=by
 have h1:=prod_lo h.neg k
 have e : mn4 (-b * c) (-b * d) (-a * c) (-a * d) = -(mx4 (a * c) (a * d) (b * c) (b * d)):=by
  rw [mx4_neg, Int.neg_mul, Int.neg_mul, Int.neg_mul, Int.neg_mul]
  unfold mn4
  omega
 rw [e, Rat.intCast_neg] at h1
 grind
theorem SpC.mul {a b c d : Int} {v : Nat} {q r : Rat} (h : SpC a b v q) (k : SpC c d v r) : SpC (mn4 (a * c) (a * d) (b * c) (b * d) / 2 ^ v) (cdv (mx4 (a * c) (a * d) (b * c) (b * d)) (2 ^ v)) v (q * r):=
 ⟨shr_lo (prod_lo h k), shr_hi (prod_hi h k)⟩
def RSp (a b : Int) (v : Nat) (x : Rat) : Prop:=LoE (dq a (-(v : Int))) x ∧ UpE x (dq b (-(v : Int)))
theorem np {T : Int} {p j : Nat} (h : AbP T j) (hj : j ≤ 3000) (hp : p ≤ 3000) :
  mkR T (-(p : Int)) = 0 ∧ zl (mkM T (-(p : Int))) ≤ j / 32 + 1 ∧ (-(p : Int) ≤ mkE T (-(p : Int)) ∧ mkE T (-(p : Int)) ≤ (j : Int) + 32) ∧ Dv (mkM T (-(p : Int))) (mkE T (-(p : Int))) ∧ dq (mkM T (-(p : Int))) (mkE T (-(p : Int))) = dq T (-(p : Int)):=by
 have hz:=h.zl
 have hr : mkR T (-(p : Int)) = 0:=mk_fits2 (by omega) (by omega) (by omega)
 have z1:=zl_mk T (-(p : Int))
 have z2:=mkE_at hr (k:=j / 32 + 1) hz
 exact ⟨hr, by omega, by omega, mk_ok hr, dq_mk hr⟩
def fz (T : Int) : Nat:=if T = 0 then 0 else if T = -1 then 1 else if T = 1 then 2 else Nat.log2 T.natAbs / 16 + 3
theorem fz_ge {T : Int} (h : 2 ≤ T.natAbs) : fz T = Nat.log2 T.natAbs / 16 + 3:=by
 unfold fz
 rw [if_neg (by omega), if_neg (by omega), if_neg (by omega)]
theorem fz_le {T : Int} (h : T.natAbs ≤ 1) : fz T ≤ 2:=by
 unfold fz
 split
 ·omega
 ·split
  ·omega
  ·rw [if_pos (by omega)]
   exact Nat.le_refl 2
theorem fz_two (p : Nat) : fz (2 ^ p) ≤ p / 16 + 3:=by
 have e : ((2 : Int) ^ p).natAbs = 2 ^ p:=by rw [Int.natAbs_pow]; rfl
 by_cases h : 2 ≤ ((2 : Int) ^ p).natAbs
 ·rw [fz_ge h, e, Nat.log2_two_pow]
  omega
 ·have:=fz_le (T:=2 ^ p) (by omega)
  omega
structure ExR (X : Int) (p k : Nat) (T S : Int) : Prop where
 k1 : 1 ≤ k
 fk : k + fz T ≤ p / 16 + 4
 sp : 0 ≤ X → 0 ≤ T ∧ 2 ^ p ≤ S
 sn : X ≤ 0 → S ≤ 2 ^ p ∧ S ≤ 2 ^ p + T
 ta : T.natAbs ≤ 2 ^ p
 sa : S.natAbs ≤ k * 2 ^ p
 tl : tm (k - 1) (dq X (-(p : Int))) - 3 * dq 1 (-(p : Int)) ≤ dq T (-(p : Int)) ∧ dq T (-(p : Int)) ≤ tm (k - 1) (dq X (-(p : Int))) + 3 * dq 1 (-(p : Int))
 sl : esm k (dq X (-(p : Int))) - 3 * (k : Rat) * dq 1 (-(p : Int)) ≤ dq S (-(p : Int)) ∧ dq S (-(p : Int)) ≤ esm k (dq X (-(p : Int))) + 3 * (k : Rat) * dq 1 (-(p : Int))
theorem dq_onep (p : Nat) : dq (2 ^ p) (-(p : Int)) = 1:=by
 rw [dq_scale]
 exact two_cast p
theorem ExR.first (X : Int) (p : Nat) : ExR X p 1 (2 ^ p) (2 ^ p):=by
 have e : ((2 : Int) ^ p).natAbs = 2 ^ p:=by rw [Int.natAbs_pow]; rfl
 have hp:=pow2_pos p
 have hf:=fz_two p
 have hu:=dq_pos (-(p : Int))
 have e0 : tm (1 - 1) (dq X (-(p : Int))) = 1:=rfl
 have e1 : esm 1 (dq X (-(p : Int))) = 1:=by show (0 : Rat) + 1 = 1; grind
 have e2 : ((1 : Nat) : Rat) = 1:=rfl
 refine ⟨by omega, by omega, fun _ => ⟨by omega, Int.le_refl _⟩, fun _ => ⟨Int.le_refl _, by omega⟩, by omega, by omega, ?_, ?_⟩
 ·rw [dq_onep, e0]; grind
 ·rw [dq_onep, e1, e2]; grind
theorem ExR.last {X : Int} {p k : Nat} {S : Int} (hX : X.natAbs * 2 ^ 32 ≤ 2 ^ p) (h : ExR X p k 0 S) (hk : 2 ≤ k) :
  LoE (dq S (-(p : Int)) - (3 * (k : Rat) + 3) * dq 1 (-(p : Int))) (dq X (-(p : Int))) ∧ UpE (dq X (-(p : Int))) (dq S (-(p : Int)) + (3 * (k : Rat) + 3) * dq 1 (-(p : Int))):=by
 obtain ⟨k1, fk, sp, sn, ta, sa, ⟨t1, t2⟩, ⟨s1, s2⟩⟩:=h
 have hu:=dq_pos (-(p : Int))
 rw [dq_zero] at t1 t2
 have hx : rab (dq X (-(p : Int))) ≤ 1 / 8:=by
  have e : (((2 : Nat) ^ p : Nat) : Int) = 2 ^ p:=by simp
  have h1 : -(2 ^ p) ≤ X * 8:=by rw [← e]; omega
  have h2 : X * 8 ≤ 2 ^ p:=by rw [← e]; omega
  have g1:=(dq_le_iff _ _ (-(p : Int))).2 h1
  have g2:=(dq_le_iff _ _ (-(p : Int))).2 h2
  rw [dq_neg, dq_onep, dq_scale (X * 8), Rat.intCast_mul] at g1
  rw [dq_onep, dq_scale (X * 8), Rat.intCast_mul] at g2
  rw [dq_scale X]
  have e8 : ((8 : Int) : Rat) = 8:=rfl
  rw [e8] at g1 g2
  unfold rab
  split <;> grind
 obtain ⟨j, rfl⟩ : ∃ j, k = j + 1:=⟨k - 1, by omega⟩
 rw [show j + 1 - 1 = j by omega] at t1 t2
 have h0:=rab_nn (dq X (-(p : Int)))
 have b1 : tm j (rab (dq X (-(p : Int)))) ≤ 3 * dq 1 (-(p : Int)):=by
  unfold rab
  split
  ·grind
  ·rw [tm_neg]
   rcases sgk_or j with e | e <;> rw [e] <;> grind
 have b2:=tm_mul j (rab (dq X (-(p : Int))))
 have b3:=tm_nn j h0
 have b4:=tm_nn (j + 1) h0
 have hj:=nat_nn j
 have b5 : tm (j + 1) (rab (dq X (-(p : Int)))) ≤ dq 1 (-(p : Int)):=by
  have q1:=Rat.mul_le_mul_of_nonneg_left hx b3
  have q2:=Rat.mul_le_mul_of_nonneg_left (show 1 ≤ (j : Rat) + 1 by grind) b4
  grind
 refine ⟨(exp_lo j _).down (by grind), (exp_up j (by grind)).up (by grind)⟩
theorem rp_succ (b : Rat) (n : Nat) : rp b (n + 1) = rp b n * b:=rfl
theorem rp_bern {u : Rat} (hu : 0 ≤ u) (n : Nat) : 1 + (n : Rat) * u ≤ rp (1 + u) n:=by
  induction n with
  | zero => show 1 + ((0 : Nat) : Rat) * u ≤ 1; rw [show ((0 : Nat) : Rat) = 0 from rfl]; grind
  | succ n ih =>
    have e : ((n + 1 : Nat) : Rat) = (n : Rat) + 1:=by push_cast; rfl
    rw [rp_succ, e]
    have h1:=Rat.mul_le_mul_of_nonneg_right ih (show 0 ≤ 1 + u by grind)
    have h2:=Rat.mul_nonneg (nat_nn n) (rsq_nn u)
    grind
theorem rp_top {u : Rat} (hu : 0 ≤ u) (n : Nat) (h : (n : Rat) * u ≤ 1) : rp (1 + u) n * (1 - (n : Rat) * u) ≤ 1:=by
  induction n with
  | zero => show (1 : Rat) * (1 - ((0 : Nat) : Rat) * u) ≤ 1; rw [show ((0 : Nat) : Rat) = 0 from rfl]; grind
  | succ n ih =>
    have e : ((n + 1 : Nat) : Rat) = (n : Rat) + 1:=by push_cast; rfl
    rw [rp_succ, e]
    rw [e] at h
    have h0:=Rat.mul_nonneg (nat_nn n) hu
    have h1:=ih (by grind)
    have h2:=Rat.mul_nonneg (nat_nn n) (rsq_nn u)
    have h3:=rsq_nn u
    have h4 : 0 ≤ rp (1 + u) n:=rp_nn (by grind) n
    have h5:=Rat.mul_nonneg h4 (show 0 ≤ (n : Rat) * (u * u) + u * u by grind)
    grind
theorem rp_small {u : Rat} (hu : 0 ≤ u) (n : Nat) (h : (n : Rat) * u ≤ 1 / 2) : rp (1 + u) n ≤ 1 + 2 * ((n : Rat) * u):=by
 have h1:=rp_top hu n (by grind)
 have h0:=Rat.mul_nonneg (nat_nn n) hu
 generalize rp (1 + u) n = G at *
 generalize (n : Rat) * u = t at *
 refine le_of_mul (c:=1 - t) (by grind) ?_
 have h2:=Rat.mul_nonneg h0 (show 0 ≤ 1 - 2 * t by grind)
 grind
structure PwU (p n : Nat) (s : Int) (y : Rat) : Prop where
 lo : ∃ a, 0 < a ∧ LoE a y ∧ dq s (-(p : Int)) ≤ a * rp (1 + dq 1 (-(p : Int))) n
 up : ∃ b, UpE y b ∧ b ≤ dq s (-(p : Int)) * rp (1 + dq 1 (-(p : Int))) n
 one : 2 ^ p ≤ s
structure PwD (p n : Nat) (s : Int) (y : Rat) : Prop where
 lo : LoE (dq s (-(p : Int)) - (rp (1 + dq 1 (-(p : Int))) n - 1)) y
 up : UpE y (dq s (-(p : Int)) + (rp (1 + dq 1 (-(p : Int))) n - 1))
 nn : 0 ≤ s
 one : s ≤ 2 ^ p
def PwB (p n : Nat) (s : Int) (y : Rat) : Prop:=(PwU p n s y ∧ 0 ≤ y) ∨ (PwD p n s y ∧ y ≤ 0)
theorem PwB.top {p n : Nat} {s : Int} {y B : Rat} (h : PwB p n s y) (hB : UpE y B) (hB1 : 1 ≤ B) (hn : (n : Rat) * dq 1 (-(p : Int)) ≤ 1 / 2) : 0 ≤ s ∧ dq s (-(p : Int)) ≤ 2 * B:=by
 have hu:=dq_pos (-(p : Int))
 have hG:=rp_small (Rat.le_of_lt hu) n hn
 rcases h with ⟨h, hy⟩ | ⟨h, hy⟩
 ·obtain ⟨a, ha, l1, l2⟩:=h.lo
  have h1:=l1.le hB
  have hP:=pow2_pos p
  have h2:=h.one
  have q1:=Rat.mul_le_mul_of_nonneg_left (show rp (1 + dq 1 (-(p : Int))) n ≤ 2 by grind) (Rat.le_of_lt ha)
  exact ⟨by omega, by grind⟩
 ·have h4:=(dq_le_iff _ _ (-(p : Int))).2 h.one
  rw [dq_onep] at h4
  exact ⟨h.nn, by grind⟩
theorem arg_near {a b x y u : Rat} (hu : 0 < u) (hu2 : u ≤ 1 / 2) (h1 : x ≤ y + u) (h2 : y ≤ x + u) (la : LoE a x) (ub : UpE x b) (ha2 : a ≤ 2) (hb : b ≤ 2) : LoE (a - 2 * u) y ∧ UpE y (b + 4 * u):=by
 have g1:=exp_line (-u)
 have g2:=g1.neg (by grind)
 rw [Rat.neg_neg] at g2
 have g3 : (1 + -u)⁻¹ ≤ 1 + 2 * u:=by
  refine le_of_mul (c:=1 + -u) (by grind) ?_
  rw [Rat.inv_mul_cancel _ (by grind)]
  have:=Rat.mul_nonneg (Rat.le_of_lt hu) (show 0 ≤ 1 - 2 * u by grind)
  grind
 have hbp:=ub.pos
 refine ⟨?_, ((ub.add (g2.up g3)).mono h2).up ?_⟩
 ·by_cases h0 : 0 < a
  ·have w:=la.add g1 h0 (by grind)
   refine (w.mono (show x + -u ≤ y by grind) (Rat.mul_nonneg (Rat.le_of_lt h0) (by grind))).down ?_
   have:=Rat.mul_le_mul_of_nonneg_right ha2 (Rat.le_of_lt hu)
   grind
  ·exact (LoE.zero _).down (by grind)
 ·have:=Rat.mul_le_mul_of_nonneg_right hb (Rat.le_of_lt hu)
  grind
theorem PwB.first {p E : Nat} {S : Int} {y : Rat} (h1 : LoE (dq S (-(p : Int)) - (E : Rat) * dq 1 (-(p : Int))) y) (h2 : UpE y (dq S (-(p : Int)) + (E : Rat) * dq 1 (-(p : Int)))) (hE : (E : Rat) * dq 1 (-(p : Int)) ≤ 1 / 4)
  (hp : 0 ≤ y → 2 ^ p ≤ S) (hn : y ≤ 0 → 0 ≤ S ∧ S ≤ 2 ^ p) : PwB p (2 * E) S y:=by
 have hu:=dq_pos (-(p : Int))
 have hb:=rp_bern (Rat.le_of_lt hu) (2 * E)
 have e : ((2 * E : Nat) : Rat) * dq 1 (-(p : Int)) = 2 * ((E : Rat) * dq 1 (-(p : Int))):=by
  rw [Rat.natCast_mul, show ((2 : Nat) : Rat) = 2 from rfl]
  grind
 rw [e] at hb
 have ht:=Rat.mul_nonneg (nat_nn E) (Rat.le_of_lt hu)
 by_cases hy : 0 ≤ y
 ·have hS:=hp hy
  have h4:=(dq_le_iff _ _ (-(p : Int))).2 hS
  rw [dq_onep] at h4
  refine Or.inl ⟨⟨⟨_, ?_, h1, ?_⟩, ⟨_, h2, ?_⟩, hS⟩, hy⟩
  ·grind
  ·generalize rp (1 + dq 1 (-(p : Int))) (2 * E) = G at *
   generalize (E : Rat) * dq 1 (-(p : Int)) = t at *
   generalize dq S (-(p : Int)) = s1 at *
   have q1:=Rat.mul_le_mul_of_nonneg_left hb (show 0 ≤ s1 - t by grind)
   have q2:=Rat.mul_nonneg ht (show 0 ≤ 2 * (s1 - t) - 1 by grind)
   grind
  ·generalize rp (1 + dq 1 (-(p : Int))) (2 * E) = G at *
   generalize (E : Rat) * dq 1 (-(p : Int)) = t at *
   generalize dq S (-(p : Int)) = s1 at *
   have q1:=Rat.mul_le_mul_of_nonneg_left hb (show 0 ≤ s1 by grind)
   have q2:=Rat.mul_le_mul_of_nonneg_right h4 ht
   grind
 ·obtain ⟨n1, n2⟩:=hn (by grind)
  exact Or.inr ⟨⟨h1.down (by grind), h2.up (by grind), n1, n2⟩, by grind⟩

theorem dq_add1 (a b : Int) : dq 1 (a + b) = dq 1 a * dq 1 b:=by
 have:=dq_mul 1 a 1 b
 rwa [Int.one_mul] at this
theorem one_dg (n : Nat) : (1 : Rat) ≤ dq 1 (n : Int):=by
  induction n with
  | zero => exact Rat.le_refl
  | succ n ih =>
    rw [show ((n + 1 : Nat) : Int) = (n : Int) + 1 by omega, dq_add1]
    have e : dq 1 1 = 2:=rfl
    rw [e]
    grind
structure PwH (m e : Int) (w h p dg : Nat) : Prop where
 ep : p = w + 32 + h + dg
 up : UpE (dq m e) (dq 1 (dg : Int))
 lo : -dq 1 ((h : Int) - 64) ≤ dq m e
 hi : dq m e ≤ dq 1 ((h : Int) - 64)
 p7 : p ≤ 700
theorem dq_anti {a b : Int} (h : a ≤ b) : dq 1 a ≤ dq 1 b:=by
 obtain ⟨n, rfl⟩ : ∃ n : Nat, b = a + (n : Int):=⟨(b - a).toNat, by omega⟩
 rw [dq_add1]
 have:=Rat.mul_le_mul_of_nonneg_left (one_dg n) (Rat.le_of_lt (dq_pos a))
 grind
def nrX (m e : Int) (h p : Nat) : Int:=(cutQ (dq m (e + -(h : Int))) ((p : Int) + 1) + 1) / 2
theorem dq_hlv (m e h : Int) : dq m (e + -h) = dq m e * dq 1 (-h):=by
 have:=dq_mul m e 1 (-h)
 rwa [Int.mul_one] at this
theorem PwH.arg {m e : Int} {w h p dg : Nat} (H : PwH m e w h p dg) : (nrX m e h p).natAbs * 2 ^ 32 ≤ 2 ^ p ∧ (0 ≤ dq m e → 0 ≤ nrX m e h p) ∧ (dq m e ≤ 0 → nrX m e h p ≤ 0) ∧
  dq (nrX m e h p) (-(p : Int)) ≤ dq m (e + -(h : Int)) + dq 1 (-(p : Int)) ∧ dq m (e + -(h : Int)) ≤ dq (nrX m e h p) (-(p : Int)) + dq 1 (-(p : Int)):=by
 have n1:=near_lo (dq m (e + -(h : Int))) (p : Int)
 have n2:=near_hi (dq m (e + -(h : Int))) (p : Int)
 have hh:=dq_half (p : Int)
 have hu:=dq_pos (-(p : Int))
 have hu2:=dq_pos (-((p : Int) + 1))
 have ep:=H.ep
 have hq:=dq_hlv m e (h : Int)
 have h64 : dq 1 ((h : Int) - 64) * dq 1 (-(h : Int)) = dq 1 (-64):=by rw [← dq_add1]; congr 1; omega
 have hhp:=dq_pos (-(h : Int))
 have q1:=Rat.mul_le_mul_of_nonneg_right H.hi (Rat.le_of_lt hhp)
 have q2:=Rat.mul_le_mul_of_nonneg_right H.lo (Rat.le_of_lt hhp)
 rw [h64, ← hq] at q1
 rw [Rat.neg_mul, h64, ← hq] at q2
 have hX : (cutQ (dq m (e + -(h : Int))) ((p : Int) + 1) + 1) / 2 = nrX m e h p:=rfl
 rw [hX] at n1 n2
 have c32 : dq 1 (-(p : Int)) ≤ dq 1 (-32):=dq_anti (by omega)
 have v32 : dq 1 (-32) = 1 / 4294967296:=by decide +kernel
 have v64 : dq 1 (-64) = 1 / 18446744073709551616:=by decide +kernel
 refine ⟨?_, fun h0 => ?_, fun h0 => ?_, by grind, by grind⟩
 ·have e32 : (2 : Nat) ^ 32 = 4294967296:=by decide
  have eP : (((2 : Nat) ^ p : Nat) : Int) = 2 ^ p:=by simp
  have k1 : nrX m e h p * 4294967296 ≤ 2 ^ p:=by
   refine (dq_le_iff _ _ (-(p : Int))).1 ?_
   rw [dq_onep, dq_scale (nrX m e h p * 4294967296), Rat.intCast_mul]
   rw [dq_scale (nrX m e h p)] at n1
   have e9 : ((4294967296 : Int) : Rat) = 4294967296:=by decide +kernel
   rw [e9]
   rw [v32] at c32
   rw [v64] at q1 q2
   clear v32 v64 h64 hX e9 eP e32 hq
   generalize ((nrX m e h p : Int) : Rat) = X at *
   generalize dq 1 (-(p : Int)) = u at *
   generalize dq 1 (-((p : Int) + 1)) = u2 at *
   generalize dq m (e + -(h : Int)) = q at *
   clear H ep
   grind
  have k2 : -(2 ^ p) ≤ nrX m e h p * 4294967296:=by
   refine (dq_le_iff _ _ (-(p : Int))).1 ?_
   rw [dq_neg, dq_onep, dq_scale (nrX m e h p * 4294967296), Rat.intCast_mul]
   rw [dq_scale (nrX m e h p)] at n2
   have e9 : ((4294967296 : Int) : Rat) = 4294967296:=by decide +kernel
   rw [e9]
   rw [v32] at c32
   rw [v64] at q1 q2
   clear v32 v64 h64 hX e9 eP e32 hq
   generalize ((nrX m e h p : Int) : Rat) = X at *
   generalize dq 1 (-(p : Int)) = u at *
   generalize dq 1 (-((p : Int) + 1)) = u2 at *
   generalize dq m (e + -(h : Int)) = q at *
   clear H ep
   grind
  rw [e32]
  rw [← eP] at k1 k2
  omega
 ·unfold nrX
  have h1 : 0 ≤ dq m (e + -(h : Int)):=by rw [hq]; exact Rat.mul_nonneg h0 (Rat.le_of_lt hhp)
  have : 0 ≤ cutQ (dq m (e + -(h : Int))) ((p : Int) + 1):=by
   unfold cutQ
   refine Rat.le_floor_iff.2 ?_
   exact Rat.mul_nonneg h1 (Rat.le_of_lt (dq_pos _))
  omega
 ·unfold nrX
  have h1 : dq m (e + -(h : Int)) ≤ 0:=by
   rw [hq]
   have:=Rat.mul_nonneg (show 0 ≤ -(dq m e) by grind) (Rat.le_of_lt hhp)
   grind
  have : cutQ (dq m (e + -(h : Int))) ((p : Int) + 1) ≤ 0:=by
   have h2:=cut_lo (dq m (e + -(h : Int))) ((p : Int) + 1)
   have h3:=(dq_le_iff (cutQ (dq m (e + -(h : Int))) ((p : Int) + 1)) 0 (-((p : Int) + 1))).1 (by rw [dq_zero]; exact Rat.le_trans h2 h1)
   exact h3
  omega
def PwL (m e : Int) (h p i : Nat) (s : Int) : Prop:=i ≤ h ∧ ∃ n0, n0 ≤ 1000 ∧ PwB p ((n0 + 1) * 2 ^ i - 1) s ((((2 : Nat) ^ i : Nat) : Rat) * dq m (e + -(h : Int)))
theorem first_num {u x s k : Rat} (hu : 0 < u) (c32 : u ≤ 1 / 4294967296) (hk0 : 0 ≤ k) (hk : k ≤ 60) (hx : -(1 / 8) ≤ x) (b1 : 1 + x ≤ s + (3 * k + 3) * u) (b2 : s - (3 * k + 3) * u ≤ 8 / 7) :
  u ≤ 1 / 2 ∧ s - (3 * k + 3) * u ≤ 2 ∧ s + (3 * k + 3) * u ≤ 2 ∧ (3 * k + 7) * u ≤ 1 / 4 ∧ 0 ≤ s ∧ s - (3 * k + 7) * u ≤ s - (3 * k + 3) * u - 2 * u ∧ s + (3 * k + 3) * u + 4 * u ≤ s + (3 * k + 7) * u:=by
 have h1 : (3 * k + 7) * u ≤ 187 * u:=Rat.mul_le_mul_of_nonneg_right (by grind) (Rat.le_of_lt hu)
 have h2 : 0 ≤ (3 * k + 3) * u:=Rat.mul_nonneg (by grind) (Rat.le_of_lt hu)
 refine ⟨by grind, by grind, by grind, by grind, by grind, by grind, by grind⟩
theorem PwL.first {m e : Int} {w h p dg k : Nat} {S : Int} (H : PwH m e w h p dg) (R : ExR (nrX m e h p) p k 0 S) : PwL m e h p 0 S:=by
 obtain ⟨x1, x2, x3, x4, x5⟩:=H.arg
 have hk2 : 2 ≤ k:=by
  refine Nat.not_lt.1 fun hlt => ?_
  have h1:=R.k1
  obtain rfl : k = 1:=by omega
  have h2:=R.tl.1
  rw [show tm (1 - 1) (dq (nrX m e h p) (-(p : Int))) = 1 from rfl, dq_zero] at h2
  have ep:=H.ep
  have c32 : dq 1 (-(p : Int)) ≤ dq 1 (-32):=dq_anti (by omega)
  have v32 : dq 1 (-32) = 1 / 4294967296:=by decide +kernel
  rw [v32] at c32
  clear x1 x2 x3 x4 x5 R H ep hlt h1 v32
  generalize dq 1 (-(p : Int)) = u at *
  grind
 obtain ⟨l1, l2⟩:=R.last x1 hk2
 have fk:=R.fk
 have p7:=H.p7
 have ep:=H.ep
 have hkb : k ≤ 60:=by omega
 have c32 : dq 1 (-(p : Int)) ≤ dq 1 (-32):=dq_anti (by omega)
 have v32 : dq 1 (-32) = 1 / 4294967296:=by decide +kernel
 have hu:=dq_pos (-(p : Int))
 have hkr : (k : Rat) ≤ 60:=by exact_mod_cast hkb
 have hk0:=nat_nn k
 obtain ⟨x, hx⟩:=nm9 (dq (nrX m e h p) (-(p : Int)))
 have hxb : -(1 / 8) ≤ x ∧ x ≤ 1 / 8:=by
  have eP : (((2 : Nat) ^ p : Nat) : Int) = 2 ^ p:=by simp
  have h1 : -(2 ^ p) ≤ nrX m e h p * 8:=by rw [← eP]; omega
  have h2 : nrX m e h p * 8 ≤ 2 ^ p:=by rw [← eP]; omega
  have g1:=(dq_le_iff _ _ (-(p : Int))).2 h1
  have g2:=(dq_le_iff _ _ (-(p : Int))).2 h2
  rw [dq_neg, dq_onep, dq_scale (nrX m e h p * 8), Rat.intCast_mul] at g1
  rw [dq_onep, dq_scale (nrX m e h p * 8), Rat.intCast_mul] at g2
  rw [dq_scale (nrX m e h p)] at hx
  have e8 : ((8 : Int) : Rat) = 8:=rfl
  rw [e8] at g1 g2
  clear x1 x2 x3 x4 x5 R H l1 l2 c32 v32 hu hkr hk0
  generalize ((nrX m e h p : Int) : Rat) = X at *
  generalize dq 1 (-(p : Int)) = u at *
  constructor <;> grind
 rw [hx] at l1 l2 x4 x5
 -- the sum lies between 1/2 and 2
 have b1:=(exp_line x).le l2
 have b2 : dq S (-(p : Int)) - (3 * (k : Rat) + 3) * dq 1 (-(p : Int)) ≤ 8 / 7:=by
  obtain ⟨z1, z2⟩:=hxb
  have p1 : 0 < 1 + -x:=by clear x1 x2 x3 x4 x5 R H l1 l2 c32 v32 hu hkr hk0 hx b1; grind
  have g:=(exp_line (-x)).neg p1
  rw [Rat.neg_neg] at g
  refine Rat.le_trans (l1.le g) ?_
  refine le_of_mul (c:=1 + -x) p1 ?_
  have p2 : 1 + -x ≠ 0:=by clear x1 x2 x3 x4 x5 R H l1 l2 c32 v32 hu hkr hk0 hx b1 g; grind
  rw [Rat.inv_mul_cancel _ p2]
  clear x1 x2 x3 x4 x5 R H l1 l2 c32 v32 hu hkr hk0 hx b1 g p2
  grind
 rw [v32] at c32
 obtain ⟨f1, f2, f3, f4, f5, f6, f7⟩:=first_num hu c32 hk0 hkr hxb.1 b1 b2
 obtain ⟨y1, y2⟩:=arg_near hu f1 x4 x5 l1 l2 f2 f3
 have e7 : ((3 * k + 7 : Nat) : Rat) = 3 * (k : Rat) + 7:=by push_cast; rfl
 have hy:=dq_hlv m e (h : Int)
 have hhp:=dq_pos (-(h : Int))
 refine ⟨by omega, 2 * (3 * k + 7), by omega, ?_⟩
 rw [show (2 * (3 * k + 7) + 1) * 2 ^ 0 - 1 = 2 * (3 * k + 7) by rw [Nat.pow_zero]; omega, show (((2 : Nat) ^ 0 : Nat) : Rat) * dq m (e + -(h : Int)) = dq m (e + -(h : Int)) from by rw [Nat.pow_zero]; exact Rat.one_mul _]
 refine PwB.first (y1.down ?_) (y2.up ?_) ?_ (fun h0 => ?_) (fun h0 => ?_)
 ·rw [e7]; exact f6
 ·rw [e7]; exact f7
 ·rw [e7]; exact f4
 ·refine (R.sp (x2 ?_)).2
  rw [hy] at h0
  clear x1 x2 x3 x4 x5 R H l1 l2 c32 v32 hu hkr hk0 hx b1 b2 f1 f2 f3 f4 f5 f6 f7 y1 y2 e7 hxb
  generalize dq m e = D at *
  generalize dq 1 (-(h : Int)) = H2 at *
  refine Rat.not_lt.1 fun hlt => ?_
  have:=Rat.mul_pos (show 0 < -D by grind) hhp
  grind
 ·have hd : dq m e ≤ 0:=by
   rw [hy] at h0
   clear x1 x2 x3 x4 x5 R H l1 l2 c32 v32 hu hkr hk0 hx b1 b2 f1 f2 f3 f4 f5 f6 f7 y1 y2 e7 hxb
   generalize dq m e = D at *
   generalize dq 1 (-(h : Int)) = H2 at *
   refine Rat.not_lt.1 fun hlt => ?_
   have:=Rat.mul_pos hlt hhp
   grind
  refine ⟨?_, (R.sn (x3 hd)).1⟩
  refine (dq_le_iff 0 S (-(p : Int))).1 ?_
  rw [dq_zero]
  exact f5
theorem nat_dq (n : Nat) : (((2 : Nat) ^ n : Nat) : Rat) = dq 1 (n : Int):=by
  induction n with
  | zero => rfl
  | succ n ih =>
    rw [Nat.pow_succ, Rat.natCast_mul, ih, show ((n + 1 : Nat) : Int) = (n : Int) + 1 by omega, dq_add1]
    rfl
theorem pw_n {n0 i h p : Nat} (h0 : n0 ≤ 1000) (hi : i ≤ h) : (((n0 + 1) * 2 ^ i - 1 : Nat) : Rat) * dq 1 (-(p : Int)) ≤ dq 1 (10 + (h : Int) - (p : Int)):=by
 have h1 : (n0 + 1) * 2 ^ i - 1 ≤ 2 ^ (10 + h):=by
  have a1 : (n0 + 1) * 2 ^ i ≤ 1024 * 2 ^ h:=Nat.mul_le_mul (by omega) (Nat.pow_le_pow_right (by omega) hi)
  have e10 : (2 : Nat) ^ 10 = 1024:=by decide
  rw [Nat.pow_add, e10]
  omega
 have h2 : (((n0 + 1) * 2 ^ i - 1 : Nat) : Rat) ≤ (((2 : Nat) ^ (10 + h) : Nat) : Rat):=by exact_mod_cast h1
 rw [nat_dq] at h2
 have h3:=Rat.mul_le_mul_of_nonneg_right h2 (Rat.le_of_lt (dq_pos (-(p : Int))))
 rw [← dq_add1, show ((10 + h : Nat) : Int) + -(p : Int) = 10 + (h : Int) - (p : Int) by omega] at h3
 exact h3
theorem PwL.mid {m e : Int} {w h p dg i : Nat} (H : PwH m e w h p dg) (hi : i ≤ h) : UpE ((((2 : Nat) ^ i : Nat) : Rat) * dq m (e + -(h : Int))) (dq 1 (dg : Int)):=by
 have hq:=dq_hlv m e (h : Int)
 have hhp:=dq_pos (-(h : Int))
 have e1 : (((2 : Nat) ^ h : Nat) : Rat) * dq m (e + -(h : Int)) = dq m e:=by
  rw [hq, nat_dq]
  have:=dq_unit (h : Int)
  grind
 by_cases h0 : 0 ≤ dq m (e + -(h : Int))
 ·refine H.up.mono ?_
  rw [← e1]
  refine Rat.mul_le_mul_of_nonneg_right ?_ h0
  exact_mod_cast Nat.pow_le_pow_right (n:=2) (by omega) hi
 ·refine (exp_0.2.mono ?_).up (one_dg dg)
  have:=Rat.mul_nonneg (nat_nn (2 ^ i)) (show 0 ≤ -(dq m (e + -(h : Int))) by grind)
  grind
theorem PwL.size {m e : Int} {w h p dg i : Nat} {s : Int} (H : PwH m e w h p dg) (L : PwL m e h p i s) : AbP s (p + dg + 1):=by
 obtain ⟨hi, n0, h0, b⟩:=L
 have ep:=H.ep
 have hn:=pw_n (p:=p) h0 hi
 have hc : dq 1 (10 + (h : Int) - (p : Int)) ≤ dq 1 (-1):=dq_anti (by omega)
 have v1 : dq 1 (-1) = 1 / 2:=by decide +kernel
 obtain ⟨t1, t2⟩:=b.top (PwL.mid H hi) (one_dg dg) (by grind)
 have e2 : 2 * dq 1 (dg : Int) = dq (2 ^ (p + dg + 1)) (-(p : Int)):=by
  have : dq (2 ^ (p + dg + 1)) (-(p : Int)) = dq 1 ((dg : Int) + 1):=by
   refine dq_eq (F := -(p : Int)) ?_ (by omega) (by omega)
   rw [show (-(p : Int) - -(p : Int)).toNat = 0 by omega, show ((dg : Int) + 1 - -(p : Int)).toNat = p + dg + 1 by omega]
   simp
  rw [this, dq_add1]
  have v2 : dq 1 1 = 2:=rfl
  rw [v2]
  grind
 rw [e2] at t2
 have t3:=(dq_le_iff _ _ _).1 t2
 unfold AbP
 have eP : (((2 : Nat) ^ (p + dg + 1) : Nat) : Int) = 2 ^ (p + dg + 1):=by simp
 rw [← eP] at t3
 omega
theorem top_bd (m e : Int) : -dq 1 (topZ m e) ≤ dq m e ∧ dq m e ≤ dq 1 (topZ m e):=by
 unfold topZ
 by_cases h0 : m = 0
 ·subst h0
  rw [if_pos rfl, dq_zero]
  have:=dq_pos 0
  constructor <;> grind
 ·rw [if_neg h0]
  have hi:=lt_two_pow_blen m.natAbs
  obtain ⟨n, hn⟩:=nm9 (blen m.natAbs)
  rw [hn] at hi ⊢
  have eP : dq ((2 ^ n : Nat) : Int) e = dq 1 ((n : Int) + e):=by
   rw [dq_scale, Rat.intCast_natCast, nat_dq, ← dq_add1]
  rw [← eP, ← dq_neg]
  exact ⟨(dq_le_iff _ _ _).2 (by omega), (dq_le_iff _ _ _).2 (by omega)⟩
theorem big_addN {m e n k s t : Int} {j : Nat} (he : -(j : Int) ≤ e) (hk : -(j : Int) ≤ k) (hs : dq m e = dq s (-(j : Int))) (ht : dq n k = dq t (-(j : Int))) (hz : AbP (s + t) 60100) (hmin : min e k ≤ 4000) (hj : j ≤ 5000) :
  mkR (addS m e n k) (min e k) = 0 ∧ dq (mkM (addS m e n k) (min e k)) (mkE (addS m e n k) (min e k)) = dq (s + t) (-(j : Int)) ∧ zl (mkM (addS m e n k) (min e k)) ≤ 1900 ∧ (-5000 ≤ mkE (addS m e n k) (min e k) ∧ mkE (addS m e n k) (min e k) ≤ 70000):=by
 have h1:=dq_add m e n k
 rw [hs, ht, ← dq_addI] at h1
 obtain ⟨V, hV⟩:=nm9 (addS m e n k)
 obtain ⟨r, hr⟩ : ∃ r : Nat, min e k + (j : Int) = (r : Int):=⟨(min e k + (j : Int)).toNat, by omega⟩
 rw [hV] at h1 ⊢
 have h2 : dq V (min e k) = dq (V * 2 ^ r) (-(j : Int)):=by
  refine dq_eq (F := -(j : Int)) ?_ (by omega) (by omega)
  rw [show (min e k - -(j : Int)).toNat = r by omega, show (-(j : Int) - -(j : Int)).toNat = 0 by omega]
  simp
 have h3 : V * 2 ^ r = s + t:=dq_inj (h2.symm.trans h1)
 have hV2 : AbP V 60100:=by
  unfold AbP at *
  rw [← h3, abs_shl] at hz
  exact Nat.le_trans (Nat.le_mul_of_pos_right _ (Nat.pow_pos (by omega))) hz
 have zv:=hV2.zl
 have hr0 : mkR V (min e k) = 0:=mk_fits2 (by omega) (by omega) (by omega)
 have z1:=zl_mk V (min e k)
 have z2:=mkE_at hr0 zv
 exact ⟨hr0, by rw [dq_mk hr0, h1], by omega, by omega⟩
theorem npBN {T : Int} {j : Nat} (h : AbP T 60000) (hj : j ≤ 5000) :
  mkR T (-(j : Int)) = 0 ∧ zl (mkM T (-(j : Int))) ≤ 1876 ∧ (-(j : Int) ≤ mkE T (-(j : Int)) ∧ mkE T (-(j : Int)) ≤ 60100) ∧ dq (mkM T (-(j : Int))) (mkE T (-(j : Int))) = dq T (-(j : Int)):=by
 have hz:=h.zl
 have hr : mkR T (-(j : Int)) = 0:=mk_fits2 (by omega) (by omega) (by omega)
 have z1:=zl_mk T (-(j : Int))
 have z2:=mkE_at hr (k:=1876) (by omega)
 exact ⟨hr, by omega, by omega, dq_mk hr⟩
theorem unit2N (k : Nat) : dq 1 (-((k : Int) - 1)) = 2 * dq 1 (-(k : Int)):=by
 rw [show -((k : Int) - 1) = 1 + -(k : Int) by omega, dq_add1]
 have v : dq 1 1 = 2:=by decide +kernel
 rw [v]

theorem near_gen (k : Nat) (a b a1 b1 a2 b2 : Int) (vx vl vh : Value) (w : World) (hk : k ≤ 220) (hle : a ≤ b) (az : AbP a (k + 302)) (bz : AbP b (k + 302)) (l3 : AbP a1 60000) (l4 : AbP b1 60000) (h3 : AbP a2 60000) (h4 : AbP b2 60000) (c1 : dq a (-(k : Int)) ≤ dq b1 (-((k + 16 : Nat) : Int))) (c2 : dq a1 (-((k + 16 : Nat) : Int)) ≤ dq a (-(k : Int)) + 2 * dq 1 (-(k : Int))) (c3 : dq a2 (-((k + 16 : Nat) : Int)) ≤ dq b (-(k : Int))) (c4 : dq b (-(k : Int)) - 2 * dq 1 (-(k : Int)) ≤ dq b2 (-((k + 16 : Nat) : Int))) (hx : IsI w vx (mkM a (-(k : Int))) (mkE a (-(k : Int))) (mkM b (-(k : Int))) (mkE b (-(k : Int)))) (hl : IsI w vl (mkM a1 (-((k + 16 : Nat) : Int))) (mkE a1 (-((k + 16 : Nat) : Int))) (mkM b1 (-((k + 16 : Nat) : Int))) (mkE b1 (-((k + 16 : Nat) : Int)))) (hh : IsI w vh (mkM a2 (-((k + 16 : Nat) : Int))) (mkE a2 (-((k + 16 : Nat) : Int))) (mkM b2 (-((k + 16 : Nat) : Int))) (mkE b2 (-((k + 16 : Nat) : Int)))) :
  Calls Tryz.prog 16 #[vx, vl, vh, .int .i64 (k : Int)] w (RetB w true):=by
 obtain ⟨j, hj⟩:=nm9 (k + 16)
 rw [hj] at c1 c2 c3 c4 hl hh
 obtain ⟨A1, A2, A3, A4, A5⟩:=np az (by omega) (show k ≤ 3000 by omega)
 obtain ⟨B1, B2, B3, B4, B5⟩:=np bz (by omega) (show k ≤ 3000 by omega)
 obtain ⟨C1, C2, C3, C4⟩:=npBN l3 (show j ≤ 5000 by omega)
 obtain ⟨D1, D2, D3, D4⟩:=npBN l4 (show j ≤ 5000 by omega)
 obtain ⟨E1, E2, E3, E4⟩:=npBN h3 (show j ≤ 5000 by omega)
 obtain ⟨F1, F2, F3, F4⟩:=npBN h4 (show j ≤ 5000 by omega)
 have hpk : permB (k : Int) = true:=by
  unfold permB
  rw [decide_eq_true (show (-2048 : Int) ≤ (k : Int) by omega), decide_eq_true (show (k : Int) ≤ 8192 by omega)]
  rfl
 have hpj : permB ((k : Int) - 1) = true:=by
  unfold permB
  rw [decide_eq_true (show (-2048 : Int) ≤ (k : Int) - 1 by omega), decide_eq_true (show (k : Int) - 1 ≤ 8192 by omega)]
  rfl
 obtain ⟨y1, y2, y3⟩:=g_yes hpj 1
 have z11 : zl 1 ≤ 1:=len_le1 (show 1 < 4294967296 by omega)
 have hr1 : mkR 1 (-((k : Int) - 1)) = 0:=mk_fits2 (Nat.le_trans z11 (by omega)) (by omega) (by omega)
 have zu:=Nat.le_trans (zl_mk 1 (-((k : Int) - 1))) z11
 have eu:=mkE_at hr1 z11
 have qu:=dq_mk hr1
 have eu1 : dq 1 (-((k : Int) - 1)) = dq 131072 (-(j : Int)):=by
  refine dq_eq (F := -(j : Int)) ?_ (by omega) (by omega)
  rw [show (-((k : Int) - 1) - -(j : Int)).toNat = 17 by omega, show (-(j : Int) - -(j : Int)).toNat = 0 by omega]
  decide
 have eu2 : dq (-(mkM 1 (-((k : Int) - 1)))) (mkE 1 (-((k : Int) - 1))) = dq (-131072) (-(j : Int)):=by
  rw [dq_neg, qu, eu1, ← dq_neg]
 have eu3 : -(j : Int) ≤ mkE 1 (-((k : Int) - 1)) ∧ mkE 1 (-((k : Int) - 1)) ≤ 100:=by rcases eu with e | e <;> omega
 have p17 : AbP 131072 60000:=AbP.up (j:=17) (by unfold AbP; decide) (by omega)
 obtain ⟨S1, S2, S3, S4⟩:=big_addN (m:=mkM a1 (-(j : Int))) (e:=mkE a1 (-(j : Int))) C3.1 eu3.1 C4 eu2 ((l3.add p17.neg).up (by omega)) (by omega) (show j ≤ 5000 by omega)
 obtain ⟨T1, T2, T3, T4⟩:=big_addN (m:=mkM b2 (-(j : Int))) (e:=mkE b2 (-(j : Int))) F3.1 eu3.1 F4 (qu.trans eu1) ((h4.add p17).up (by omega)) (by omega) (show j ≤ 5000 by omega)
 have hu2 : dq 131072 (-(j : Int)) = 2 * dq 1 (-(k : Int)):=eu1.symm.trans (unit2N k)
 have w1 : IntKind.i64.wrap ((k : Int) - 1) = (k : Int) - 1:=by rw [IntKind.wrap_i64]; omega
 refine s13near_any (mkM a (-(k : Int))) (mkE a (-(k : Int))) (mkM b (-(k : Int))) (mkE b (-(k : Int))) (mkM a1 (-(j : Int))) (mkE a1 (-(j : Int))) (mkM b1 (-(j : Int))) (mkE b1 (-(j : Int))) (mkM a2 (-(j : Int))) (mkE a2 (-(j : Int))) (mkM b2 (-(j : Int))) (mkE b2 (-(j : Int))) (k : Int) (mkM 1 (-((k : Int) - 1))) (mkE 1 (-((k : Int) - 1))) 0 (mkM (addS (mkM a1 (-(j : Int))) (mkE a1 (-(j : Int))) (-(mkM 1 (-((k : Int) - 1)))) (mkE 1 (-((k : Int) - 1)))) (min (mkE a1 (-(j : Int))) (mkE 1 (-((k : Int) - 1))))) (mkE (addS (mkM a1 (-(j : Int))) (mkE a1 (-(j : Int))) (-(mkM 1 (-((k : Int) - 1)))) (mkE 1 (-((k : Int) - 1)))) (min (mkE a1 (-(j : Int))) (mkE 1 (-((k : Int) - 1))))) (mkM (addS (mkM b2 (-(j : Int))) (mkE b2 (-(j : Int))) (mkM 1 (-((k : Int) - 1))) (mkE 1 (-((k : Int) - 1)))) (min (mkE b2 (-(j : Int))) (mkE 1 (-((k : Int) - 1))))) (mkE (addS (mkM b2 (-(j : Int))) (mkE b2 (-(j : Int))) (mkM 1 (-((k : Int) - 1))) (mkE 1 (-((k : Int) - 1)))) (min (mkE b2 (-(j : Int))) (mkE 1 (-((k : Int) - 1)))))
  _ _ _ _ vx vl vh w hx hl hh w1 ?_ ?_ ?_ ?_ ?_ ?_ (fun v u W h1 h2 => rcmp8_any _ _ _ _ v u W h1 h2 (by omega) (by omega) (by omega) (by omega)) (fun v u W h1 h2 => rcmp8_any _ _ _ _ v u W h1 h2 (by omega) (by omega) (by omega) (by omega)) (fun v u W h1 h2 => rcmp8_any _ _ _ _ v u W h1 h2 (by omega) (by omega) (by omega) (by omega)) (fun v u W h1 h2 => rcmp8_any _ _ _ _ v u W h1 h2 (by omega) (by omega) (by omega) (by omega)) ?_ ?_ ?_ ?_
 ·intro v W h
  have s:=r10valid_any _ _ _ _ v W h (by omega) (by omega) (by omega) (by omega) A4 B4
  rwa [decide_eq_true (show dcm (mkM a (-(k : Int))) (mkE a (-(k : Int))) (mkM b (-(k : Int))) (mkE b (-(k : Int))) ≤ 0 from (dcm_le _ _ _ _).2 (by rw [A5, B5]; exact (dq_le_iff _ _ _).2 hle))] at s
 ·intro v W h
  have s:=ron9_any _ _ (k : Int) v W h (by omega) (by omega)
  unfold onB at s
  rwa [hpk, decide_eq_true A3.1, Bool.or_true, Bool.and_true] at s
 ·intro v W h
  have s:=ron9_any _ _ (k : Int) v W h (by omega) (by omega)
  unfold onB at s
  rwa [hpk, decide_eq_true B3.1, Bool.or_true, Bool.and_true] at s
 ·intro W
  have s:=runit9_any ((k : Int) - 1) W (by omega) (by omega)
  rwa [y1, y2, y3, hr1] at s
 ·intro v u W h k9
  have s:=rsub8_any _ _ _ _ v u W h k9 (by omega) (by omega) (by omega) (by omega)
  rwa [S1] at s
 ·intro v u W h k9
  have s:=radd8_any _ _ _ _ v u W h k9 (by omega) (by omega) (by omega) (by omega)
  rwa [T1] at s
 ·exact (dcm_le _ _ _ _).2 (by rw [A5, D4]; exact c1)
 ·refine (dcm_le _ _ _ _).2 ?_
  rw [S2, A5, dq_addI, dq_neg, hu2]
  generalize dq a (-(k : Int)) = p at *
  generalize dq 1 (-(k : Int)) = u at *
  generalize dq a1 (-(j : Int)) = q at *
  clear hl hh hx S1 S2 T1 T2
  grind
 ·exact (dcm_le _ _ _ _).2 (by rw [B5, E4]; exact c3)
 ·refine (dcm_le _ _ _ _).2 ?_
  rw [T2, B5, dq_addI, hu2]
  generalize dq b (-(k : Int)) = p at *
  generalize dq 1 (-(k : Int)) = u at *
  generalize dq b2 (-(j : Int)) = q at *
  clear hl hh hx S1 S2 T1 T2
  grind
def art : Nat → Rat → Rat
 | 0, _ => 0
 | n + 1, z => art n z + rp z (2 * n + 1) / (((2 * n : Nat) : Rat) + 1)
def gs : Nat → Rat → Rat
 | 0, _ => 0
 | n + 1, z => gs n z + rp z (2 * n)
theorem rp_le {t s : Rat} (ht : 0 ≤ t) (h : t ≤ s) (j : Nat) : rp t j ≤ rp s j:=by
 induction j with
 | zero => exact Rat.le_refl
 | succ j ih => exact rmul_le ih h ht (rp_nn (Rat.le_trans ht h) j)
theorem rp_diff {t h : Rat} (ht : 0 ≤ t) (hh : 0 ≤ h) : ∀ m : Nat, h * ((m : Rat) + 1) * rp t m ≤ rp (t + h) (m + 1) - rp t (m + 1) ∧ rp (t + h) (m + 1) - rp t (m + 1) ≤ h * ((m : Rat) + 1) * rp (t + h) m
  | 0 => by
    show h * (((0 : Nat) : Rat) + 1) * 1 ≤ 1 * (t + h) - 1 * t ∧ 1 * (t + h) - 1 * t ≤ h * (((0 : Nat) : Rat) + 1) * 1
    rw [show ((0 : Nat) : Rat) = 0 from rfl]
    constructor <;> grind
  | m + 1 => by
    obtain ⟨a, b⟩:=rp_diff ht hh m
    have hs : 0 ≤ t + h:=by grind
    have l:=rp_le ht (show t ≤ t + h by grind) (m + 1)
    have n1:=rp_nn ht m
    have n2:=rp_nn ht (m + 1)
    have n3:=nat_nn m
    have e : ((m + 1 : Nat) : Rat) = (m : Rat) + 1:=by push_cast; rfl
    have s1 : ∀ x : Rat, rp x (m + 1 + 1) = rp x (m + 1) * x:=fun _ => rfl
    have s2 : ∀ x : Rat, rp x (m + 1) = rp x m * x:=fun _ => rfl
    have d0 : 0 ≤ rp (t + h) (m + 1) - rp t (m + 1):=by grind
    have p1:=Rat.mul_le_mul_of_nonneg_right b hs
    have p2:=Rat.mul_le_mul_of_nonneg_right a ht
    have p3:=Rat.mul_nonneg d0 hh
    have p4:=Rat.mul_le_mul_of_nonneg_left l hh
    rw [s1, s1, e]
    have q1:=s2 (t + h)
    have q2:=s2 t
    generalize rp (t + h) (m + 1) = S at *
    generalize rp t (m + 1) = T at *
    generalize rp (t + h) m = S' at *
    generalize rp t m = T' at *
    generalize (m : Rat) = k at *
    constructor
    · have : h * (k + 1) * T' * t = h * (k + 1) * T:=by rw [q2]; grind
      grind
    · have : h * (k + 1) * S' * (t + h) = h * (k + 1) * S:=by rw [q1]; grind
      grind
theorem div_le9 {a b c : Rat} (hc : 0 < c) (h : a ≤ b * c) : a / c ≤ b:=by
 refine le_of_mul hc ?_
 rw [Rat.div_mul_cancel (Rat.ne_of_gt hc)]
 exact h
theorem le_div9 {a b c : Rat} (hc : 0 < c) (h : a * c ≤ b) : a ≤ b / c:=by
 refine le_of_mul hc ?_
 rw [Rat.div_mul_cancel (Rat.ne_of_gt hc)]
 exact h
theorem art_diff (n : Nat) {t h : Rat} (ht : 0 ≤ t) (hh : 0 ≤ h) : h * gs n t ≤ art n (t + h) - art n t ∧ art n (t + h) - art n t ≤ h * gs n (t + h):=by
  induction n with
  | zero =>
    show h * 0 ≤ (0 : Rat) - 0 ∧ (0 : Rat) - 0 ≤ h * 0
    constructor <;> grind
  | succ n ih =>
    obtain ⟨a, b⟩:=rp_diff ht hh (2 * n)
    have k0:=nat_nn (2 * n)
    have hk : (0 : Rat) < ((2 * n : Nat) : Rat) + 1:=by grind
    obtain ⟨i1, i2⟩:=ih
    have e : rp (t + h) (2 * n + 1) / (((2 * n : Nat) : Rat) + 1) - rp t (2 * n + 1) / (((2 * n : Nat) : Rat) + 1) = (rp (t + h) (2 * n + 1) - rp t (2 * n + 1)) / (((2 * n : Nat) : Rat) + 1):=by
      rw [Rat.div_def, Rat.div_def, Rat.div_def]
      grind
    have c1 : h * rp t (2 * n) ≤ (rp (t + h) (2 * n + 1) - rp t (2 * n + 1)) / (((2 * n : Nat) : Rat) + 1):=le_div9 hk (by grind)
    have c2 : (rp (t + h) (2 * n + 1) - rp t (2 * n + 1)) / (((2 * n : Nat) : Rat) + 1) ≤ h * rp (t + h) (2 * n):=div_le9 hk (by grind)
    rw [← e] at c1 c2
    show h * (gs n t + rp t (2 * n)) ≤ (art n (t + h) + rp (t + h) (2 * n + 1) / (((2 * n : Nat) : Rat) + 1)) - (art n t + rp t (2 * n + 1) / (((2 * n : Nat) : Rat) + 1)) ∧ (art n (t + h) + rp (t + h) (2 * n + 1) / (((2 * n : Nat) : Rat) + 1)) - (art n t + rp t (2 * n + 1) / (((2 * n : Nat) : Rat) + 1)) ≤ h * (gs n (t + h) + rp (t + h) (2 * n))
    generalize rp (t + h) (2 * n + 1) / (((2 * n : Nat) : Rat) + 1) = A at *
    generalize rp t (2 * n + 1) / (((2 * n : Nat) : Rat) + 1) = B at *
    generalize rp (t + h) (2 * n) = C at *
    generalize rp t (2 * n) = D at *
    clear a b e k0 hk
    constructor <;> grind
theorem gs_geo (n : Nat) (z : Rat) : gs n z * (1 - z * z) = 1 - rp z (2 * n):=by
  induction n with
  | zero =>
    show 0 * (1 - z * z) = 1 - 1
    grind
  | succ n ih =>
    show (gs n z + rp z (2 * n)) * (1 - z * z) = 1 - rp z (2 * n) * z * z
    grind
theorem art_zero (n : Nat) : art n 0 = 0:=by
  induction n with
  | zero => rfl
  | succ n ih =>
    show art n 0 + rp 0 (2 * n) * 0 / (((2 * n : Nat) : Rat) + 1) = 0
    rw [ih, Rat.mul_zero, Rat.div_def, Rat.zero_mul, Rat.add_zero]
theorem frac_le {a b x c d : Rat} (hb : 0 < b) (hx : 0 < x) (hd : 0 < d) (h : a * d ≤ c * (b * x)) : a / b * x⁻¹ ≤ c / d:=by
 have e1 : a / b * b = a:=Rat.div_mul_cancel (Rat.ne_of_gt hb)
 have e2 : x⁻¹ * x = 1:=Rat.inv_mul_cancel _ (Rat.ne_of_gt hx)
 have e3 : c / d * d = c:=Rat.div_mul_cancel (Rat.ne_of_gt hd)
 refine le_of_mul (c:=b * x * d) (Rat.mul_pos (Rat.mul_pos hb hx) hd) ?_
 generalize a / b = p at *
 generalize x⁻¹ = y at *
 generalize c / d = q at *
 have f1 : p * y * (b * x * d) = (p * b) * (y * x) * d:=by grind
 have f2 : q * (b * x * d) = (q * d) * (b * x):=by grind
 rw [f1, f2, e1, e2, e3]
 grind
theorem ln_step_up (n : Nat) {t h X : Rat} (ht : 0 ≤ t) (hh : 0 ≤ h) (hs : t + h < 1) (hX : X * (1 - (t + h) * (t + h)) = 2 * h) (hX1 : X < 1) : UpE (2 * art n (t + h) - 2 * art n t) (1 + -X)⁻¹:=by
 have hl:=(exp_line (-X)).neg (by grind)
 rw [Rat.neg_neg] at hl
 refine hl.mono ?_
 have d:=(art_diff n ht hh).2
 have g:=gs_geo n (t + h)
 have r0:=rp_nn (show 0 ≤ t + h by grind) (2 * n)
 have hp : 0 < 1 - (t + h) * (t + h):=by
  have:=Rat.mul_pos (show 0 < 1 - (t + h) by grind) (show 0 < 1 + (t + h) by grind)
  grind
 have k : 2 * (h * gs n (t + h)) ≤ X:=by
  refine le_of_mul hp ?_
  rw [hX, show 2 * (h * gs n (t + h)) * (1 - (t + h) * (t + h)) = 2 * h * (gs n (t + h) * (1 - (t + h) * (t + h))) by grind, g]
  have:=Rat.mul_nonneg hh r0
  grind
 grind
theorem ln_step_lo (n : Nat) {t h Y q : Rat} (ht : 0 ≤ t) (hh : 0 ≤ h) (hs : t < 1) (hY : Y * (1 - t * t) = 2 * h) (hq : 2 * rp t (2 * n) ≤ q * (1 - t * t)) : LoE (1 + Y) (2 * art n (t + h) - 2 * art n t + h * q):=by
 have hp : 0 < 1 - t * t:=by
  have:=Rat.mul_pos (show 0 < 1 - t by grind) (show 0 < 1 + t by grind)
  grind
 have hY0 : 0 ≤ Y:=by
  refine le_of_mul hp ?_
  rw [hY]
  grind
 refine (exp_line Y).mono ?_ (by grind)
 have d:=(art_diff n ht hh).1
 have g:=gs_geo n t
 have k : Y ≤ 2 * (h * gs n t) + h * q:=by
  refine le_of_mul hp ?_
  rw [hY, show (2 * (h * gs n t) + h * q) * (1 - t * t) = 2 * h * (gs n t * (1 - t * t)) + h * (q * (1 - t * t)) by grind, g]
  have:=Rat.mul_le_mul_of_nonneg_left hq hh
  grind
 grind
theorem rp_bernL {c : Rat} (h0 : 0 ≤ c) (h1 : c ≤ 1) (j : Nat) : 1 - (j : Rat) * c ≤ rp (1 - c) j:=by
  induction j with
  | zero =>
    show 1 - ((0 : Nat) : Rat) * c ≤ 1
    rw [show ((0 : Nat) : Rat) = 0 from rfl]
    grind
  | succ j ih =>
    have e : ((j + 1 : Nat) : Rat) = (j : Rat) + 1:=by push_cast; rfl
    rw [e]
    show 1 - ((j : Rat) + 1) * c ≤ rp (1 - c) j * (1 - c)
    have:=Rat.mul_le_mul_of_nonneg_right ih (show 0 ≤ 1 - c by grind)
    have:=Rat.mul_nonneg (nat_nn j) (Rat.mul_nonneg h0 h0)
    grind
theorem ln_cost {p h K z c : Rat} (hh : 0 ≤ h) (hK : K * (1 - z) = 1) (hK0 : 0 ≤ K) (hp : 1 - z ≤ p) (hc : c = 2 * h * h * (K * K)) : 2 * h * h ≤ c * (p * p) ∧ 0 ≤ c:=by
 have k1 : 1 ≤ K * p:=by
  have:=Rat.mul_le_mul_of_nonneg_left hp hK0
  grind
 have k2:=rmul_le k1 k1 (by grind) (by grind)
 have h2:=Rat.mul_nonneg hh hh
 have k3:=Rat.mul_le_mul_of_nonneg_left k2 h2
 have k4:=Rat.mul_nonneg h2 (Rat.mul_nonneg hK0 hK0)
 constructor
 ·rw [hc]; grind
 ·rw [hc]; grind
theorem shuf1 (a b c d : Rat) : a * (b * (c * d)) = c * (a * b * d):=by grind
theorem shuf3 (a b c : Rat) : a * (b * c) = b * (a * c):=by grind
theorem shuf4 {x y : Rat} (h : x ≤ 2 * y) (h2 : y ≤ 1 / 4) : x ≤ 1 / 2:=by grind
theorem shuf2 (a b c d : Rat) : a * (b * c * d) = c * (a * b * d):=by grind
theorem ln_up_ind (n : Nat) {z h K c : Rat} (hz1 : z < 1) (hh : 0 ≤ h) (hK : K * (1 - z) = 1) (hK0 : 0 ≤ K) (hs : h * K ≤ 1 / 4) (hc : c = 2 * h * h * (K * K)) (hc1 : c < 1) : ∀ j : Nat, (j : Rat) * h ≤ z → UpE (2 * art n ((j : Rat) * h)) ((1 + (j : Rat) * h) / ((1 - (j : Rat) * h) * rp (1 - c) j))
  | 0, _ => by
    rw [show ((0 : Nat) : Rat) = 0 from rfl, Rat.zero_mul, art_zero, Rat.mul_zero]
    show UpE 0 ((1 + 0) / ((1 - 0) * 1))
    have e : ((1 : Rat) + 0) / ((1 - 0) * 1) = 1:=by decide +kernel
    rw [e]
    exact exp_0.2
  | j + 1, hj => by
    have e : ((j + 1 : Nat) : Rat) * h = (j : Rat) * h + h:=by push_cast; grind
    rw [e] at hj ⊢
    have ih:=ln_up_ind n hz1 hh hK hK0 hs hc hc1 j (by grind)
    have ht:=Rat.mul_nonneg (nat_nn j) hh
    have hR : 0 < rp (1 - c) j:=rp_pos (by grind) j
    have eR : rp (1 - c) (j + 1) = rp (1 - c) j * (1 - c):=rfl
    rw [eR]
    generalize rp (1 - c) j = R at *
    generalize (j : Rat) * h = t at *
    obtain ⟨p, hp⟩:=nm9 (1 - (t + h))
    have hp0 : 1 - z ≤ p:=by grind
    obtain ⟨c1, c0⟩:=ln_cost hh hK hK0 hp0 hc
    have hpp : 0 < 1 - (t + h) * (t + h):=by
      have:=Rat.mul_pos (show 0 < 1 - (t + h) by grind) (show 0 < 1 + (t + h) by grind)
      grind
    obtain ⟨X, hX⟩ : ∃ X, X * (1 - (t + h) * (t + h)) = 2 * h:=⟨2 * h / (1 - (t + h) * (t + h)), Rat.div_mul_cancel (Rat.ne_of_gt hpp)⟩
    have hX0 : 0 ≤ X:=by
      refine le_of_mul hpp ?_
      rw [hX]
      grind
    have hX2 : X ≤ 1 / 2:=by
      have q1 : 1 - z ≤ 1 - (t + h) * (t + h):=by
        have:=Rat.mul_nonneg (show 0 ≤ t + h by grind) (show 0 ≤ 1 - (t + h) by grind)
        grind
      have q2:=Rat.mul_le_mul_of_nonneg_left q1 hX0
      rw [hX] at q2
      have q3:=Rat.mul_le_mul_of_nonneg_left q2 hK0
      rw [shuf3 K X (1 - z), hK, Rat.mul_one, shuf3 K 2 h, Rat.mul_comm K h] at q3
      exact shuf4 q3 hs
    have st:=ln_step_up n ht hh (by grind) hX (by grind)
    have ad:=ih.add st
    rw [show 2 * art n t + (2 * art n (t + h) - 2 * art n t) = 2 * art n (t + h) by grind] at ad
    refine ad.up (frac_le ?_ ?_ ?_ ?_)
    · exact Rat.mul_pos (by grind) hR
    · grind
    · exact Rat.mul_pos (by grind) (Rat.mul_pos hR (by grind))
    · have main : (1 + t) * p * (1 - c) ≤ (1 + (t + h)) * (1 - t) * (1 + -X):=by
        refine le_of_mul (c:=p) (by grind) ?_
        have et : t = 1 - p - h:=by grind
        have r1 : (1 + (t + h)) * (1 - t) * (1 + -X) * p = (p + h) * (p * (2 - p) - 2 * h):=by
          have : X * (p * (2 - p)) = 2 * h:=by rw [← hX, et]; grind
          rw [et]
          grind
        have r2 : (p + h) * (p * (2 - p) - 2 * h) = p * p * (2 - p - h) - 2 * h * h:=by grind
        have r3 : (1 + t) * p * (1 - c) * p = p * p * (2 - p - h) - c * (p * p) * (2 - p - h):=by rw [et]; grind
        rw [r1, r2, r3]
        have r4 : 0 ≤ (c * (p * p)) * (1 - p - h):=Rat.mul_nonneg (Rat.mul_nonneg c0 (rsq_nn p)) (by grind)
        grind
      have m2:=Rat.mul_le_mul_of_nonneg_left main (Rat.le_of_lt hR)
      rw [hp, shuf1 (1 + t) p R (1 - c), shuf2 (1 + (t + h)) (1 - t) R (1 + -X)]
      exact m2
theorem ln_lo_ind (n : Nat) {z h K c q : Rat} (hz1 : z < 1) (hh : 0 ≤ h) (hK : K * (1 - z) = 1) (hK0 : 0 ≤ K) (hc : c = 2 * h * h * (K * K)) (hc1 : c < 1) (hq : 2 * rp z (2 * n) ≤ q * (1 - z * z)) : ∀ j : Nat, (j : Rat) * h ≤ z → LoE ((1 + (j : Rat) * h) / (1 - (j : Rat) * h) * rp (1 - c) j) (2 * art n ((j : Rat) * h) + (j : Rat) * h * q)
  | 0, _ => by
    rw [show ((0 : Nat) : Rat) = 0 from rfl, Rat.zero_mul, art_zero, Rat.mul_zero, Rat.zero_mul]
    show LoE ((1 + 0) / (1 - 0) * 1) (0 + 0)
    have e : ((1 : Rat) + 0) / (1 - 0) * 1 = 1:=by decide +kernel
    rw [e, Rat.add_zero]
    exact exp_0.1
  | j + 1, hj => by
    have e : ((j + 1 : Nat) : Rat) * h = (j : Rat) * h + h:=by push_cast; grind
    rw [e] at hj ⊢
    have ih:=ln_lo_ind n hz1 hh hK hK0 hc hc1 hq j (by grind)
    have ht:=Rat.mul_nonneg (nat_nn j) hh
    have hR : 0 < rp (1 - c) j:=rp_pos (by grind) j
    have eR : rp (1 - c) (j + 1) = rp (1 - c) j * (1 - c):=rfl
    rw [eR]
    generalize rp (1 - c) j = R at *
    generalize (j : Rat) * h = t at *
    obtain ⟨p, hp⟩:=nm9 (1 - t)
    have hp0 : 1 - z ≤ p:=by grind
    obtain ⟨c1, c0⟩:=ln_cost hh hK hK0 hp0 hc
    have hpp : 0 < 1 - t * t:=by
      have:=Rat.mul_pos (show 0 < 1 - t by grind) (show 0 < 1 + t by grind)
      grind
    obtain ⟨Y, hY⟩ : ∃ Y, Y * (1 - t * t) = 2 * h:=⟨2 * h / (1 - t * t), Rat.div_mul_cancel (Rat.ne_of_gt hpp)⟩
    have hY0 : 0 ≤ Y:=by
      refine le_of_mul hpp ?_
      rw [hY]
      grind
    have hq0 : 2 * rp t (2 * n) ≤ q * (1 - t * t):=by
      have z0 : 0 ≤ z:=by grind
      have l1:=rp_le ht (show t ≤ z by grind) (2 * n)
      have zz : 0 < 1 - z * z:=by
        have:=Rat.mul_pos (show 0 < 1 - z by grind) (show 0 < 1 + z by grind)
        grind
      have q0 : 0 ≤ q:=by
        refine le_of_mul zz ?_
        have:=rp_nn z0 (2 * n)
        grind
      have tz:=rmul_le (show t ≤ z by grind) (show t ≤ z by grind) ht z0
      have:=Rat.mul_le_mul_of_nonneg_left (show 1 - z * z ≤ 1 - t * t by grind) q0
      grind
    have st:=ln_step_lo n ht hh (by grind) hY hq0
    have hB : 0 < (1 + t) / (1 - t) * R:=by
      refine Rat.mul_pos ?_ hR
      rw [Rat.div_def]
      exact Rat.mul_pos (by grind) (Rat.inv_pos.2 (by grind))
    have ad:=ih.add st hB (by grind)
    rw [show 2 * art n t + t * q + (2 * art n (t + h) - 2 * art n t + h * q) = 2 * art n (t + h) + (t + h) * q by grind] at ad
    refine ad.down ?_
    have hs0 : 0 < 1 - (t + h):=by grind
    have e1 : (1 + (t + h)) / (1 - (t + h)) * (1 - (t + h)) = 1 + (t + h):=Rat.div_mul_cancel (Rat.ne_of_gt hs0)
    have e2 : (1 + t) / (1 - t) * (1 - t) = 1 + t:=Rat.div_mul_cancel (Rat.ne_of_gt (show 0 < 1 - t by grind))
    generalize (1 + (t + h)) / (1 - (t + h)) = V at *
    generalize (1 + t) / (1 - t) = W at *
    refine le_of_mul (c:=(1 - (t + h)) * (1 - t)) (Rat.mul_pos hs0 (by grind)) ?_
    have main : (1 + (t + h)) * p * (1 - c) ≤ (1 + t) * (1 - (t + h)) * (1 + Y):=by
      refine le_of_mul (c:=p) (by grind) ?_
      have et : t = 1 - p:=by grind
      have r1 : (1 + t) * (1 - (t + h)) * (1 + Y) * p = (p - h) * (p * (2 - p) + 2 * h):=by
        have : Y * (p * (2 - p)) = 2 * h:=by rw [← hY, et]; grind
        rw [et]
        grind
      have r2 : (p - h) * (p * (2 - p) + 2 * h) = p * p * (2 - p + h) - 2 * h * h:=by grind
      have r3 : (1 + (t + h)) * p * (1 - c) * p = p * p * (2 - p + h) - c * (p * p) * (2 - p + h):=by rw [et]; grind
      rw [r1, r2, r3]
      have r4 : 0 ≤ (c * (p * p)) * (1 - p + h):=Rat.mul_nonneg (Rat.mul_nonneg c0 (rsq_nn p)) (by grind)
      grind
    have m2:=Rat.mul_le_mul_of_nonneg_left main (Rat.le_of_lt hR)
    have l1 : V * (R * (1 - c)) * ((1 - (t + h)) * (1 - t)) = R * ((1 + (t + h)) * p * (1 - c)):=by rw [← e1, ← hp]; grind
    have l2 : W * R * (1 + Y) * ((1 - (t + h)) * (1 - t)) = R * ((1 + t) * (1 - (t + h)) * (1 + Y)):=by rw [← e2]; grind
    rw [l1, l2]
    exact m2
theorem two_pow_hn (m : Nat) (z : Rat) : ((2 ^ m : Nat) : Rat) * (z * hn m) = z:=by
 have:=two_hn m
 rw [show ((2 ^ m : Nat) : Rat) * (z * hn m) = z * (((2 ^ m : Nat) : Rat) * hn m) by generalize ((2 ^ m : Nat) : Rat) = x; grind, this, Rat.mul_one]
theorem ln_fine {z K : Rat} (hz : 0 ≤ z) (hK0 : 0 ≤ K) {e Q : Rat} (he : 0 < e) (hQ : 0 ≤ Q) : ∃ m : Nat, z * hn m * K ≤ 1 / 4 ∧ 2 * (z * hn m) * (z * hn m) * (K * K) < 1 ∧ ((2 ^ m : Nat) : Rat) * (2 * (z * hn m) * (z * hn m) * (K * K)) * (Q + e) ≤ e:=by
 obtain ⟨N1, h1⟩:=small_hn (z * K) (show (0 : Rat) < 1 / 4 by decide +kernel)
 obtain ⟨N2, h2⟩:=small_hn (2 * (z * K) * (z * K) * (Q + e)) he
 have a1:=(h1 (max N1 N2) (Nat.le_max_left _ _)).2
 have a2:=(h2 (max N1 N2) (Nat.le_max_right _ _)).2
 refine ⟨max N1 N2, by grind, ?_, ?_⟩
 ·have b0 : 0 ≤ z * K * hn (max N1 N2):=Rat.mul_nonneg (Rat.mul_nonneg hz hK0) (Rat.le_of_lt (hn_pos _))
  have b1:=rmul_le a1 a1 b0 (by grind)
  rw [show 2 * (z * hn (max N1 N2)) * (z * hn (max N1 N2)) * (K * K) = 2 * (z * K * hn (max N1 N2) * (z * K * hn (max N1 N2))) by grind]
  generalize z * K * hn (max N1 N2) * (z * K * hn (max N1 N2)) = y at *
  grind
 ·have b2:=two_pow_hn (max N1 N2) z
  generalize ((2 ^ (max N1 N2) : Nat) : Rat) = x at *
  generalize hn (max N1 N2) = g at *
  rw [show x * (2 * (z * g) * (z * g) * (K * K)) * (Q + e) = 2 * (x * (z * g)) * (z * g) * (K * K) * (Q + e) by grind, b2]
  rw [show 2 * z * (z * g) * (K * K) * (Q + e) = 2 * (z * K) * (z * K) * (Q + e) * g by grind]
  exact a2
theorem ln_art_up (n : Nat) {z : Rat} (hz : 0 ≤ z) (hz1 : z < 1) : UpE (2 * art n z) ((1 + z) / (1 - z)):=by
 refine UpE.of_all fun e he => ?_
 have hp : 0 < 1 - z:=by grind
 have hK : (1 - z)⁻¹ * (1 - z) = 1:=Rat.inv_mul_cancel _ (Rat.ne_of_gt hp)
 have hK0 : 0 ≤ (1 - z)⁻¹:=Rat.le_of_lt (Rat.inv_pos.2 hp)
 have hQ1 : (1 + z) / (1 - z) * (1 - z) = 1 + z:=Rat.div_mul_cancel (Rat.ne_of_gt hp)
 have hQ : 0 ≤ (1 + z) / (1 - z):=div_nn (by grind) hp
 obtain ⟨m, m1, m2, m3⟩:=ln_fine (K:=(1 - z)⁻¹) hz hK0 he hQ
 have h0 : 0 ≤ z * hn m:=Rat.mul_nonneg hz (Rat.le_of_lt (hn_pos m))
 have b2:=two_pow_hn m z
 have r:=ln_up_ind n hz1 h0 hK hK0 m1 rfl m2 (2 ^ m) (by rw [b2]; exact Rat.le_refl)
 rw [b2] at r
 refine r.up ?_
 obtain ⟨c1, c0⟩:=ln_cost h0 hK hK0 (Rat.le_refl (a:=1 - z)) rfl
 have br:=rp_bernL c0 (Rat.le_of_lt m2) (2 ^ m)
 have hR : 0 < rp (1 - 2 * (z * hn m) * (z * hn m) * ((1 - z)⁻¹ * (1 - z)⁻¹)) (2 ^ m):=rp_pos (by grind) _
 refine div_le9 (Rat.mul_pos hp hR) ?_
 generalize 2 * (z * hn m) * (z * hn m) * ((1 - z)⁻¹ * (1 - z)⁻¹) = c at *
 generalize rp (1 - c) (2 ^ m) = R at *
 generalize (1 + z) / (1 - z) = Q at *
 generalize ((2 ^ m : Nat) : Rat) = x at *
 generalize x * c = d at *
 have k : Q ≤ (Q + e) * R:=by
  have:=Rat.mul_le_mul_of_nonneg_left br (show 0 ≤ Q + e by grind)
  grind
 have k2:=Rat.mul_le_mul_of_nonneg_right k (Rat.le_of_lt hp)
 rw [hQ1] at k2
 rw [show (Q + e) * ((1 - z) * R) = (Q + e) * R * (1 - z) by generalize 1 - z = p; grind]
 exact k2
theorem LoE.of_all {x b : Rat} (h : ∀ e, 0 < e → LoE (b - e) x) : LoE b x:=by
 obtain ⟨N, hN⟩:=half_base (-x)
 refine ⟨N, fun n hn' => ?_⟩
 have hp:=exF_pos (hN n hn').1
 refine Rat.not_lt.1 fun hlt => ?_
 have hb : 0 < b:=by
  refine Rat.not_le.1 fun hb => ?_
  have:=Rat.mul_nonneg (show 0 ≤ -b by grind) (Rat.le_of_lt hp)
  grind
 obtain ⟨d, hd⟩ : ∃ d, d * exF n (-x) = 1:=⟨(exF n (-x))⁻¹, Rat.inv_mul_cancel _ (Rat.ne_of_gt hp)⟩
 have hbd : d < b:=by
  refine Rat.not_le.1 fun hle => ?_
  have:=Rat.mul_le_mul_of_nonneg_right hle (Rat.le_of_lt hp)
  grind
 have hd0 : 0 < d:=by
  refine Rat.not_le.1 fun hle => ?_
  have:=Rat.mul_nonneg (show 0 ≤ -d by grind) (Rat.le_of_lt hp)
  grind
 obtain ⟨M, h1⟩:=h ((b - d) / 2) (by grind)
 have h2:=h1 (max M n) (Nat.le_max_left _ _)
 have h3:=exF_ups (x := -x) (n:=n) (k:=max M n) (fun j hj => (hN j (by omega)).1) (Nat.le_max_right _ _)
 have h4:=Rat.mul_le_mul_of_nonneg_left h3 (show 0 ≤ b - (b - d) / 2 by grind)
 have h5 : d < b - (b - d) / 2:=by grind
 have h6:=Rat.mul_lt_mul_of_pos_right h5 hp
 grind
theorem ln_art_lo (n : Nat) {z q : Rat} (hz : 0 ≤ z) (hz1 : z < 1) (hq : 2 * rp z (2 * n) ≤ q * (1 - z * z)) : LoE ((1 + z) / (1 - z)) (2 * art n z + z * q):=by
 refine LoE.of_all fun e he => ?_
 have hp : 0 < 1 - z:=by grind
 have hK : (1 - z)⁻¹ * (1 - z) = 1:=Rat.inv_mul_cancel _ (Rat.ne_of_gt hp)
 have hK0 : 0 ≤ (1 - z)⁻¹:=Rat.le_of_lt (Rat.inv_pos.2 hp)
 have hQ : 0 ≤ (1 + z) / (1 - z):=div_nn (by grind) hp
 obtain ⟨m, m1, m2, m3⟩:=ln_fine (K:=(1 - z)⁻¹) hz hK0 he hQ
 have h0 : 0 ≤ z * hn m:=Rat.mul_nonneg hz (Rat.le_of_lt (hn_pos m))
 have b2:=two_pow_hn m z
 have r:=ln_lo_ind n hz1 h0 hK hK0 rfl m2 hq (2 ^ m) (by rw [b2]; exact Rat.le_refl)
 rw [b2] at r
 refine r.down ?_
 obtain ⟨c1, c0⟩:=ln_cost h0 hK hK0 (Rat.le_refl (a:=1 - z)) rfl
 have br:=rp_bernL c0 (Rat.le_of_lt m2) (2 ^ m)
 have x0:=nat_nn (2 ^ m)
 generalize 2 * (z * hn m) * (z * hn m) * ((1 - z)⁻¹ * (1 - z)⁻¹) = c at *
 generalize rp (1 - c) (2 ^ m) = R at *
 generalize (1 + z) / (1 - z) = Q at *
 generalize ((2 ^ m : Nat) : Rat) = x at *
 have d0:=Rat.mul_nonneg x0 c0
 generalize x * c = d at *
 have k:=Rat.mul_le_mul_of_nonneg_left br hQ
 have k2:=Rat.mul_nonneg d0 (Rat.le_of_lt he)
 grind

theorem rp_oddL (z : Rat) : ∀ n : Nat, rp (-z) (2 * n) = rp z (2 * n) ∧ rp (-z) (2 * n + 1) = -rp z (2 * n + 1)
  | 0 => by
    constructor
    · rfl
    · show 1 * -z = -(1 * z)
      grind
  | n + 1 => by
    obtain ⟨a, b⟩:=rp_oddL z n
    have e : rp (-z) (2 * (n + 1)) = rp z (2 * (n + 1)):=by
      show rp (-z) (2 * n + 1) * -z = rp z (2 * n + 1) * z
      rw [b]
      grind
    refine ⟨e, ?_⟩
    show rp (-z) (2 * (n + 1)) * -z = -(rp z (2 * (n + 1)) * z)
    rw [e]
    grind
theorem art_neg (n : Nat) (z : Rat) : art n (-z) = -art n z:=by
  induction n with
  | zero => show (0 : Rat) = -0; grind
  | succ n ih =>
    show art n (-z) + rp (-z) (2 * n + 1) / (((2 * n : Nat) : Rat) + 1) = -(art n z + rp z (2 * n + 1) / (((2 * n : Nat) : Rat) + 1))
    rw [ih, (rp_oddL z n).2, Rat.div_def, Rat.div_def, Rat.neg_mul]
    grind
theorem ln_pos_both (n : Nat) {z r : Rat} (hz : 0 ≤ z) (hz1 : z ≤ 1 / 2) (hr : rp z (2 * n + 1) ≤ r) : UpE (2 * art n z) ((1 + z) / (1 - z)) ∧ LoE ((1 + z) / (1 - z)) (2 * art n z + 3 * r):=by
 have hz2 : z < 1:=by grind
 refine ⟨ln_art_up n hz hz2, ?_⟩
 have zz:=rmul_le hz1 hz1 hz (by grind)
 have hp : 0 < 1 - z * z:=by grind
 obtain ⟨q, hq⟩ : ∃ q, q * (1 - z * z) = 2 * rp z (2 * n):=⟨2 * rp z (2 * n) / (1 - z * z), Rat.div_mul_cancel (Rat.ne_of_gt hp)⟩
 have l:=ln_art_lo n hz hz2 (q:=q) (by rw [hq]; exact Rat.le_refl)
 have e : rp z (2 * n + 1) = rp z (2 * n) * z:=rfl
 have n0:=rp_nn hz (2 * n)
 have q0 : 0 ≤ q:=by
  refine le_of_mul hp ?_
  rw [hq]
  grind
 have zq : z * q ≤ 3 * r:=by
  have h1:=Rat.mul_le_mul_of_nonneg_left (show 3 / 4 ≤ 1 - z * z by grind) (Rat.mul_nonneg hz q0)
  rw [show z * q * (1 - z * z) = z * (q * (1 - z * z)) by grind, hq] at h1
  rw [show z * (2 * rp z (2 * n)) = 2 * (rp z (2 * n) * z) by grind, ← e] at h1
  have h2:=Rat.mul_nonneg hz q0
  generalize rp z (2 * n + 1) = w at *
  generalize z * q = u at *
  clear l hq e n0 q0 zz hp
  grind
 refine l.mono ?_ (div_nn (by grind) (by grind))
 grind
theorem ln_both (n : Nat) {z r : Rat} (hz0 : -(1 / 2) ≤ z) (hz1 : z ≤ 1 / 2) (hr : rp z (2 * n + 1) ≤ r) (hr2 : -r ≤ rp z (2 * n + 1)) (h0 : 0 ≤ r) : UpE (2 * art n z - 3 * r) ((1 + z) / (1 - z)) ∧ LoE ((1 + z) / (1 - z)) (2 * art n z + 3 * r):=by
 by_cases hz : 0 ≤ z
 ·obtain ⟨a, b⟩:=ln_pos_both n hz hz1 hr
  exact ⟨a.mono (by grind), b⟩
 ·have hy : 0 ≤ -z:=by grind
  have o:=(rp_oddL z n).2
  obtain ⟨a, b⟩:=ln_pos_both n (z := -z) (r:=r) hy (by grind) (by rw [o]; grind)
  have hB : 0 < (1 + -z) / (1 - -z):=a.pos
  have e : ((1 + -z) / (1 - -z))⁻¹ = (1 + z) / (1 - z):=by
   have x1 : (1 + -z) / (1 - -z) * (1 - -z) = 1 + -z:=Rat.div_mul_cancel (Rat.ne_of_gt (by grind))
   have x2 : (1 + z) / (1 - z) * (1 - z) = 1 + z:=Rat.div_mul_cancel (Rat.ne_of_gt (by grind))
   have x3 : ((1 + -z) / (1 - -z))⁻¹ * ((1 + -z) / (1 - -z)) = 1:=Rat.inv_mul_cancel _ (Rat.ne_of_gt hB)
   generalize ((1 + -z) / (1 - -z))⁻¹ = p at *
   generalize (1 + -z) / (1 - -z) = q at *
   generalize (1 + z) / (1 - z) = s at *
   have hne : (0 : Rat) < 1 - z:=by grind
   have y : p * (1 - z) = s * (1 - z):=by
    rw [x2]
    have : p * (1 + -z) = 1 + z:=by
     rw [← x1, show p * (q * (1 - -z)) = p * q * (1 - -z) by grind, x3]
     grind
    rw [show (1 : Rat) - z = 1 + -z by grind]
    exact this
   exact Rat.le_antisymm (le_of_mul hne (by rw [y]; exact Rat.le_refl)) (le_of_mul hne (by rw [y]; exact Rat.le_refl))
  have a2:=a.neg
  have b2:=b.neg hB
  rw [e, art_neg] at a2 b2
  refine ⟨b2.mono (by grind), a2.mono (by grind) ?_⟩
  exact div_nn (by grind) (by grind)
theorem ln_red_up {a m l : Rat} (h : UpE a m) (hl : UpE l 2) (k : Nat) : UpE (a + (k : Rat) * l) (m * rp 2 k):=h.add (hl.rp k)
theorem ln_red_lo {b m l : Rat} (h : LoE m b) (hm : 0 < m) (hl : LoE 2 l) (k : Nat) : LoE (m * rp 2 k) (b + (k : Rat) * l):=h.add (hl.rp (by grind) k) hm (rp_pos (by grind) k)
theorem ln_red_up' {a m l : Rat} (h : UpE a m) (hl : LoE 2 l) (k : Nat) : UpE (a - (k : Rat) * l) (m * (rp 2 k)⁻¹):=h.sub (hl.rp (by grind) k) (rp_pos (by grind) k)
theorem ln_red_lo' {b m l : Rat} (h : LoE m b) (hm : 0 < m) (hl : UpE l 2) (k : Nat) : LoE (m * (rp 2 k)⁻¹) (b - (k : Rat) * l):=h.sub hm (hl.rp k)
theorem ln_le {a b m : Rat} (h : UpE a m) (k : LoE m b) : a ≤ b:=by
 refine Rat.not_lt.1 fun hlt => ?_
 have h1:=k.neg h.pos
 have h2:=h.add h1
 rw [Rat.mul_inv_cancel _ (Rat.ne_of_gt h.pos), ← Rat.sub_eq_add_neg] at h2
 have h3:=(exp_line (a - b)).le h2
 grind
theorem SpC.div {a b c d : Int} {v : Nat} {s t : Rat} (h : SpC a b v s) (k : SpC c d v t) (hc : 0 < c) :
  SpC (mn4 (a * 2 ^ v / c) (cdv (b * 2 ^ v) c) (a * 2 ^ v / d) (cdv (b * 2 ^ v) d)) (mx4 (a * 2 ^ v / c) (cdv (b * 2 ^ v) c) (a * 2 ^ v / d) (cdv (b * 2 ^ v) d)) v (s / t):=by
 have hcd:=k.le
 obtain ⟨h1, h2⟩:=h
 obtain ⟨k1, k2⟩:=k
 have hu:=dq_pos (-(v : Int))
 have tc:=two_cast v
 have c0 : 0 < dq c (-(v : Int)):=by
  rw [← dq_zero (-(v : Int))]
  exact Rat.lt_of_le_of_ne ((dq_le_iff _ _ _).2 (by omega)) (fun e => by have:=(dq_le_iff c 0 (-(v : Int))).1 (by rw [e]; exact Rat.le_refl); omega)
 have t0 : 0 < t:=by
  refine Rat.not_le.1 fun hle => ?_
  have:=Rat.le_trans k1 hle
  grind
 have st : s / t * t = s:=Rat.div_mul_cancel (Rat.ne_of_gt t0)
 -- lower
 have lo : ∀ F e : Int, 0 < e → F * e ≤ a * 2 ^ v → ((0 ≤ F ∧ t ≤ dq e (-(v : Int))) ∨ (F ≤ 0 ∧ dq e (-(v : Int)) ≤ t)) → dq F (-(v : Int)) ≤ s / t:=by
  intro F e he hF hcase
  refine le_of_mul t0 ?_
  rw [st]
  refine Rat.le_trans ?_ h1
  have e1 : dq F (-(v : Int)) * dq e (-(v : Int)) ≤ dq a (-(v : Int)):=by
   have hF2:=Rat.intCast_le_intCast.2 hF
   rw [Rat.intCast_mul, Rat.intCast_mul] at hF2
   rw [dq_scale F, dq_scale e, dq_scale a]
   have hu2:=Rat.mul_nonneg (Rat.le_of_lt hu) (Rat.le_of_lt hu)
   have:=Rat.mul_le_mul_of_nonneg_right hF2 hu2
   generalize dq 1 (-(v : Int)) = u at *
   generalize (((2 : Int) ^ v : Int) : Rat) = w at *
   rw [show (F : Rat) * u * ((e : Rat) * u) = (F : Rat) * (e : Rat) * (u * u) by grind]
   refine Rat.le_trans this ?_
   rw [show (a : Rat) * w * (u * u) = (a : Rat) * u * (w * u) by grind, tc, Rat.mul_one]
   exact Rat.le_refl
  refine Rat.le_trans ?_ e1
  rcases hcase with ⟨f0, ht⟩ | ⟨f0, ht⟩
  ·have f1:=(dq_le_iff 0 F (-(v : Int))).2 f0
   rw [dq_zero] at f1
   exact Rat.mul_le_mul_of_nonneg_left ht f1
  ·have f1:=(dq_le_iff F 0 (-(v : Int))).2 f0
   rw [dq_zero] at f1
   have:=Rat.mul_le_mul_of_nonneg_left ht (show 0 ≤ -dq F (-(v : Int)) by grind)
   grind
 have up : ∀ F e : Int, 0 < e → b * 2 ^ v ≤ F * e → ((F ≤ 0 ∧ t ≤ dq e (-(v : Int))) ∨ (0 ≤ F ∧ dq e (-(v : Int)) ≤ t)) → s / t ≤ dq F (-(v : Int)):=by
  intro F e he hF hcase
  refine le_of_mul t0 ?_
  rw [st]
  refine Rat.le_trans h2 ?_
  have e1 : dq b (-(v : Int)) ≤ dq F (-(v : Int)) * dq e (-(v : Int)):=by
   have hF2:=Rat.intCast_le_intCast.2 hF
   rw [Rat.intCast_mul, Rat.intCast_mul] at hF2
   rw [dq_scale F, dq_scale e, dq_scale b]
   have hu2:=Rat.mul_nonneg (Rat.le_of_lt hu) (Rat.le_of_lt hu)
   have:=Rat.mul_le_mul_of_nonneg_right hF2 hu2
   generalize dq 1 (-(v : Int)) = u at *
   generalize (((2 : Int) ^ v : Int) : Rat) = w at *
   rw [show (F : Rat) * u * ((e : Rat) * u) = (F : Rat) * (e : Rat) * (u * u) by grind]
   refine Rat.le_trans ?_ this
   rw [show (b : Rat) * w * (u * u) = (b : Rat) * u * (w * u) by grind, tc, Rat.mul_one]
   exact Rat.le_refl
  refine Rat.le_trans e1 ?_
  rcases hcase with ⟨f0, ht⟩ | ⟨f0, ht⟩
  ·have f1:=(dq_le_iff F 0 (-(v : Int))).2 f0
   rw [dq_zero] at f1
   have:=Rat.mul_le_mul_of_nonneg_left ht (show 0 ≤ -dq F (-(v : Int)) by grind)
   grind
  ·have f1:=(dq_le_iff 0 F (-(v : Int))).2 f0
   rw [dq_zero] at f1
   exact Rat.mul_le_mul_of_nonneg_left ht f1
 have hp:=pow2_pos v
 have m1 : ∀ p q r w : Int, mn4 p q r w ≤ p ∧ mn4 p q r w ≤ r ∧ q ≤ mx4 p q r w ∧ w ≤ mx4 p q r w:=fun p q r w => by unfold mn4 mx4; omega
 obtain ⟨n1, n2, n3, n4⟩:=m1 (a * 2 ^ v / c) (cdv (b * 2 ^ v) c) (a * 2 ^ v / d) (cdv (b * 2 ^ v) d)
 constructor
 ·rcases Int.lt_or_le a 0 with ha | ha
  ·refine Rat.le_trans ((dq_le_iff _ _ _).2 n1) (lo _ c hc (Int.ediv_mul_le _ (by omega)) (Or.inr ⟨?_, k1⟩))
   have:=Int.mul_neg_of_neg_of_pos ha hp
   have:=Int.ediv_mul_le (a * 2 ^ v) (show c ≠ 0 by omega)
   refine Int.not_lt.1 fun hlt => ?_
   have:=Int.mul_pos hlt hc
   omega
  ·refine Rat.le_trans ((dq_le_iff _ _ _).2 n2) (lo _ d (by omega) (Int.ediv_mul_le _ (by omega)) (Or.inl ⟨?_, k2⟩))
   exact Int.ediv_nonneg (Int.mul_nonneg ha (Int.le_of_lt hp)) (by omega)
 ·rcases Int.lt_or_le b 0 with hb | hb
  ·refine Rat.le_trans (up _ d (by omega) ((cdv_le (by omega)).1 (Int.le_refl _)) (Or.inl ⟨?_, k2⟩)) ((dq_le_iff _ _ _).2 n4)
   refine (cdv_le (by omega)).2 ?_
   have:=Int.mul_neg_of_neg_of_pos hb hp
   omega
  ·refine Rat.le_trans (up _ c hc ((cdv_le (by omega)).1 (Int.le_refl _)) (Or.inr ⟨?_, k1⟩)) ((dq_le_iff _ _ _).2 n3)
   have:=(cdv_le (x:=b * 2 ^ v) (k:=cdv (b * 2 ^ v) c) hc).1 (Int.le_refl _)
   have h9:=Int.mul_nonneg hb (Int.le_of_lt hp)
   refine Int.not_lt.1 fun hlt => ?_
   have:=Int.mul_neg_of_neg_of_pos hlt hc
   omega
def msL (v : Nat) (a b c d : Int) : Int:=mn4 (a * c) (a * d) (b * c) (b * d) / 2 ^ v
def msH (v : Nat) (a b c d : Int) : Int:=cdv (mx4 (a * c) (a * d) (b * c) (b * d)) (2 ^ v)
def WiI (M a b : Int) : Prop:=(-M ≤ a ∧ a ≤ M) ∧ (-M ≤ b ∧ b ≤ M)
theorem mul_wide {a c M D : Int} (ha : -M ≤ a ∧ a ≤ M) (hc : -D ≤ c ∧ c ≤ D) : -(M * D) ≤ a * c ∧ a * c ≤ M * D:=by
 have h1 : (a * c).natAbs = a.natAbs * c.natAbs:=Int.natAbs_mul a c
 have h2 : a.natAbs * c.natAbs ≤ M.natAbs * D.natAbs:=Nat.mul_le_mul (by omega) (by omega)
 have h3 : (M * D).natAbs = M.natAbs * D.natAbs:=Int.natAbs_mul M D
 have h4 : 0 ≤ M * D:=Int.mul_nonneg (by omega) (by omega)
 omega
theorem ms_wide {v : Nat} {a b c d M D K : Int} (h : WiI M a b) (k : WiI D c d) (hD : 16 * D ≤ 2 ^ v) (hM : 0 ≤ M) (hK : M ≤ 16 * K) : WiI K (msL v a b c d) (msH v a b c d):=by
 have p:=pow2_pos v
 obtain ⟨ha, hb⟩:=h
 obtain ⟨hc, hd⟩:=k
 have q1:=mul_wide ha hc
 have q2:=mul_wide ha hd
 have q3:=mul_wide hb hc
 have q4:=mul_wide hb hd
 have e : M * D ≤ K * 2 ^ v:=by
  have h1 : M * (16 * D) ≤ M * 2 ^ v:=Int.mul_le_mul_of_nonneg_left hD hM
  have h2 : M * 2 ^ v ≤ 16 * K * 2 ^ v:=Int.mul_le_mul_of_nonneg_right hK (Int.le_of_lt p)
  have h3 : M * (16 * D) = 16 * (M * D):=by rw [← Int.mul_assoc, Int.mul_comm M 16, Int.mul_assoc]
  have h4 : 16 * K * 2 ^ v = 16 * (K * 2 ^ v):=Int.mul_assoc _ _ _
  omega
 have hn : -(K * 2 ^ v) ≤ mn4 (a * c) (a * d) (b * c) (b * d) ∧ mn4 (a * c) (a * d) (b * c) (b * d) ≤ K * 2 ^ v:=by unfold mn4; omega
 have hx : -(K * 2 ^ v) ≤ mx4 (a * c) (a * d) (b * c) (b * d) ∧ mx4 (a * c) (a * d) (b * c) (b * d) ≤ K * 2 ^ v:=by unfold mx4; omega
 unfold msL msH
 generalize mn4 (a * c) (a * d) (b * c) (b * d) = x at *
 generalize mx4 (a * c) (a * d) (b * c) (b * d) = y at *
 generalize (2 : Int) ^ v = P at *
 have eK : -K * P = -(K * P):=Int.neg_mul _ _
 have eK1 : (K + 1) * P = K * P + P:=by rw [Int.add_mul, Int.one_mul]
 refine ⟨⟨(Int.le_ediv_iff_mul_le p).2 (by omega), ?_⟩, ?_, (cdv_le p).2 hx.2⟩
 ·have:=(Int.ediv_lt_iff_lt_mul p).2 (show x < (K + 1) * P by omega)
  omega
 ·refine Int.not_lt.1 fun hlt => ?_
  have h1:=(cdv_le (x:=y) (n:=P) p).1 (Int.le_refl _)
  have h2 : cdv y P * P ≤ (-K - 1) * P:=Int.mul_le_mul_of_nonneg_right (by omega) (Int.le_of_lt p)
  have h3 : (-K - 1) * P = -(K * P) - P:=by rw [Int.sub_mul, Int.neg_mul, Int.one_mul]
  omega
structure LnI (v n : Nat) (z : Rat) (a b p q M : Int) : Prop where
 tm : SpC a b v (rp z (2 * n + 1))
 sm : SpC p q v (art n z)
 wi : WiI M a b
 m0 : 0 ≤ M
theorem LnI.first {v : Nat} {z : Rat} {a b M : Int} (h : SpC a b v z) (w : WiI M a b) (hM : 0 ≤ M) : LnI v 0 z a b (0 * 2 ^ v) (0 * 2 ^ v) M:=by
 refine ⟨?_, ?_, w, hM⟩
 ·have e : rp z (2 * 0 + 1) = z:=by show 1 * z = z; exact Rat.one_mul z
  rw [e]; exact h
 ·have:=SpC.of 0 v
  exact this
theorem LnI.step {v n : Nat} {z : Rat} {a b p q c d M D K : Int} (h : LnI v n z a b p q M) (hs : SpC c d v (z * z)) (wd : WiI D c d) (hD : 16 * D ≤ 2 ^ v) (hK : M ≤ 16 * K) (hK0 : 0 ≤ K) :
  LnI v (n + 1) z (msL v a b c d) (msH v a b c d) (p + a / (2 * (n : Int) + 1)) (q + cdv b (2 * (n : Int) + 1)) K:=by
 have t:=h.tm.mul hs
 have o:=h.tm.over (n:=2 * (n : Int) + 1) (by omega)
 refine ⟨?_, ?_, ms_wide h.wi wd hD h.m0 hK, hK0⟩
 ·have e : rp z (2 * (n + 1) + 1) = rp z (2 * n + 1) * (z * z):=by
   show rp z (2 * n + 1) * z * z = rp z (2 * n + 1) * (z * z)
   rw [Rat.mul_assoc]
  rw [e]
  exact t
 ·have s:=h.sm.add o
  have e : art (n + 1) z = art n z + rp z (2 * n + 1) / ((2 * (n : Int) + 1 : Int) : Rat):=by
   show art n z + rp z (2 * n + 1) / (((2 * n : Nat) : Rat) + 1) = _
   have e2 : ((2 * (n : Int) + 1 : Int) : Rat) = ((2 * n : Nat) : Rat) + 1:=by push_cast; rfl
   rw [e2]
  rw [e]
  exact s
theorem LnI.last {v n : Nat} {z : Rat} {a b p q M : Int} (h : LnI v n z a b p q M) (ht : WiI 1 a b) (hz0 : -(1 / 2) ≤ z) (hz1 : z ≤ 1 / 2) :
  UpE (dq ((p - 3) * 2) (-(v : Int))) ((1 + z) / (1 - z)) ∧ LoE ((1 + z) / (1 - z)) (dq ((q + 3) * 2) (-(v : Int))):=by
 have hu:=dq_pos (-(v : Int))
 obtain ⟨t1, t2⟩:=h.tm
 obtain ⟨s1, s2⟩:=h.sm
 have u1 : rp z (2 * n + 1) ≤ dq 1 (-(v : Int)):=Rat.le_trans t2 ((dq_le_iff _ _ _).2 ht.2.2)
 have u2 : -dq 1 (-(v : Int)) ≤ rp z (2 * n + 1):=by
  refine Rat.le_trans ?_ t1
  rw [← dq_neg]
  exact (dq_le_iff _ _ _).2 ht.1.1
 obtain ⟨x, y⟩:=ln_both n hz0 hz1 u1 u2 (Rat.le_of_lt hu)
 have e1 : dq ((p - 3) * 2) (-(v : Int)) = 2 * dq p (-(v : Int)) - 6 * dq 1 (-(v : Int)):=by
  rw [dq_scale ((p - 3) * 2), dq_scale p, Rat.intCast_mul, Rat.intCast_sub]
  have c3 : ((3 : Int) : Rat) = 3:=rfl
  have c2 : ((2 : Int) : Rat) = 2:=rfl
  rw [c3, c2]
  grind
 have e2 : dq ((q + 3) * 2) (-(v : Int)) = 2 * dq q (-(v : Int)) + 6 * dq 1 (-(v : Int)):=by
  rw [dq_scale ((q + 3) * 2), dq_scale q, Rat.intCast_mul, Rat.intCast_add]
  have c3 : ((3 : Int) : Rat) = 3:=rfl
  have c2 : ((2 : Int) : Rat) = 2:=rfl
  rw [c3, c2]
  grind
 rw [e1, e2]
 generalize dq 1 (-(v : Int)) = u at *
 generalize dq p (-(v : Int)) = P at *
 generalize dq q (-(v : Int)) = Q at *
 have hQ:=x.pos
 generalize (1 + z) / (1 - z) = m at *
 clear e1 e2 t1 t2 u1 u2 ht h
 exact ⟨x.mono (by grind), y.mono (by grind) (Rat.le_of_lt hQ)⟩
theorem ln_arg {m : Rat} (h1 : 3 / 4 ≤ m) (h2 : m ≤ 3 / 2) : -(1 / 7) ≤ (m - 1) / (m + 1) ∧ (m - 1) / (m + 1) ≤ 1 / 5 ∧ (1 + (m - 1) / (m + 1)) / (1 - (m - 1) / (m + 1)) = m:=by
 have hp : 0 < m + 1:=by grind
 have e:=Rat.div_mul_cancel (a:=m - 1) (Rat.ne_of_gt hp)
 generalize (m - 1) / (m + 1) = z at *
 have b1 : -(1 / 7) ≤ z:=le_of_mul hp (by rw [e]; grind)
 have b2 : z ≤ 1 / 5:=le_of_mul hp (by rw [e]; grind)
 refine ⟨b1, b2, ?_⟩
 have hq : (0 : Rat) < 1 - z:=by grind
 have e2:=Rat.div_mul_cancel (a:=1 + z) (Rat.ne_of_gt hq)
 generalize (1 + z) / (1 - z) = w at *
 have e3 : w * (1 - z) = m * (1 - z):=by grind
 exact Rat.le_antisymm (le_of_mul hq (by rw [e3]; exact Rat.le_refl)) (le_of_mul hq (by rw [e3]; exact Rat.le_refl))
def EnA (k : Nat) (a : Int) (x : Rat) : Prop:=UpE (dq a (-(k : Int))) x ∧ LoE x (dq a (-(k : Int)) + 2 * dq 1 (-(k : Int)))
def EnB (k : Nat) (b : Int) (x : Rat) : Prop:=UpE (dq b (-(k : Int)) - 2 * dq 1 (-(k : Int))) x ∧ LoE x (dq b (-(k : Int)))
def LnB (j : Nat) (a b : Int) (x : Rat) : Prop:=UpE (dq a (-(j : Int))) x ∧ LoE x (dq b (-(j : Int)))
theorem near_ln {k j : Nat} {a b a1 b1 a2 b2 : Int} {x y : Rat} (pa : EnA k a x) (pb : EnB k b y) (pl : LnB j a1 b1 x) (ph : LnB j a2 b2 y) :
  dq a (-(k : Int)) ≤ dq b1 (-(j : Int)) ∧ dq a1 (-(j : Int)) ≤ dq a (-(k : Int)) + 2 * dq 1 (-(k : Int)) ∧ dq a2 (-(j : Int)) ≤ dq b (-(k : Int)) ∧ dq b (-(k : Int)) - 2 * dq 1 (-(k : Int)) ≤ dq b2 (-(j : Int)):=
 ⟨ln_le pa.1 pl.2, ln_le pl.1 pa.2, ln_le ph.1 pb.2, ln_le pb.1 ph.2⟩
theorem ln_mono {a b x y : Rat} (h : UpE a x) (k : LoE y b) (hxy : x ≤ y) : a ≤ b:=ln_le (h.up hxy) k
def hr (q : Rat) : Nat → Nat → Rat
 | 0, _ => 0
 | n + 1, k => 1 / (2 * (k : Rat) + 1) + q * hr q n (k + 1)
theorem odd_inv (k : Nat) : 0 ≤ 1 / (2 * (k : Rat) + 1) ∧ 1 / (2 * (k : Rat) + 1) ≤ 1 ∧ 1 / (2 * (k : Rat) + 1) * (2 * (k : Rat) + 1) = 1:=by
 have h:=nat_nn k
 have hp : (0 : Rat) < 2 * (k : Rat) + 1:=by grind
 have e : 1 / (2 * (k : Rat) + 1) * (2 * (k : Rat) + 1) = 1:=Rat.div_mul_cancel (Rat.ne_of_gt hp)
 refine ⟨le_of_mul hp ?_, le_of_mul hp ?_, e⟩
 ·rw [e]; grind
 ·rw [e]; grind
theorem hr_nn {q : Rat} (h : 0 ≤ q) : ∀ n k, 0 ≤ hr q n k
  | 0, _ => Rat.le_refl
  | n + 1, k => by
    show 0 ≤ 1 / (2 * (k : Rat) + 1) + q * hr q n (k + 1)
    have h1:=(odd_inv k).1
    have h2:=Rat.mul_nonneg h (hr_nn h n (k + 1))
    grind
theorem hr_le {q : Rat} (h : 0 ≤ q) (h1 : q ≤ 1 / 16) : ∀ n k, hr q n k ≤ 2
  | 0, _ => by show (0 : Rat) ≤ 2; decide
  | n + 1, k => by
    show 1 / (2 * (k : Rat) + 1) + q * hr q n (k + 1) ≤ 2
    have h2:=(odd_inv k).2.1
    have h3:=rmul_le h1 (hr_le h h1 n (k + 1)) (hr_nn h n (k + 1)) (by grind)
    grind
theorem hr_diff {q s : Rat} (h : 0 ≤ q) (hqs : q ≤ s) (h1 : s ≤ 1 / 16) : ∀ n k, 0 ≤ hr s n k - hr q n k ∧ hr s n k - hr q n k ≤ 3 * (s - q)
  | 0, _ => by
    show 0 ≤ (0 : Rat) - 0 ∧ (0 : Rat) - 0 ≤ 3 * (s - q)
    constructor <;> grind
  | n + 1, k => by
    obtain ⟨a, b⟩:=hr_diff h hqs h1 n (k + 1)
    have c:=hr_le h (Rat.le_trans hqs h1) n (k + 1)
    have d:=hr_nn h n (k + 1)
    show 0 ≤ (1 / (2 * (k : Rat) + 1) + s * hr s n (k + 1)) - (1 / (2 * (k : Rat) + 1) + q * hr q n (k + 1)) ∧ (1 / (2 * (k : Rat) + 1) + s * hr s n (k + 1)) - (1 / (2 * (k : Rat) + 1) + q * hr q n (k + 1)) ≤ 3 * (s - q)
    have hs : 0 ≤ s:=Rat.le_trans h hqs
    have e1:=Rat.mul_nonneg hs a
    have e2:=Rat.mul_le_mul_of_nonneg_right h1 a
    have e3:=Rat.mul_nonneg (show 0 ≤ s - q by grind) d
    have e4:=Rat.mul_le_mul_of_nonneg_left c (show 0 ≤ s - q by grind)
    generalize hr s n (k + 1) = S at *
    generalize hr q n (k + 1) = Q at *
    constructor <;> grind
theorem hr_last (q : Rat) : ∀ n k, hr q (n + 1) k = hr q n k + rp q n * (1 / (2 * ((k + n : Nat) : Rat) + 1))
  | 0, k => by
    show 1 / (2 * (k : Rat) + 1) + q * 0 = 0 + 1 * (1 / (2 * ((k + 0 : Nat) : Rat) + 1))
    rw [Nat.add_zero]
    grind
  | n + 1, k => by
    have ih:=hr_last q n (k + 1)
    show 1 / (2 * (k : Rat) + 1) + q * hr q (n + 1) (k + 1) = 1 / (2 * (k : Rat) + 1) + q * hr q n (k + 1) + rp q n * q * (1 / (2 * ((k + (n + 1) : Nat) : Rat) + 1))
    rw [ih, show k + (n + 1) = k + 1 + n by omega]
    grind
theorem rp_sq (z : Rat) : ∀ n, rp (z * z) n = rp z (2 * n)
  | 0 => rfl
  | n + 1 => by
    show rp (z * z) n * (z * z) = rp z (2 * n) * z * z
    rw [rp_sq z n, Rat.mul_assoc]
theorem art_hr (z : Rat) : ∀ n, art n z = z * hr (z * z) n 0
  | 0 => by show (0 : Rat) = z * 0; grind
  | n + 1 => by
    show art n z + rp z (2 * n + 1) / (((2 * n : Nat) : Rat) + 1) = _
    rw [hr_last, art_hr z n, rp_sq, Nat.zero_add]
    have e : ((2 * n : Nat) : Rat) = 2 * (n : Rat):=by push_cast; rfl
    rw [e, Rat.div_def, Rat.div_def]
    show z * hr (z * z) n 0 + rp z (2 * n) * z * (2 * (n : Rat) + 1)⁻¹ = _
    grind
theorem hr_round {q v v' t f1 f2 : Rat} {n k : Nat} (h0 : 0 ≤ q) (hv : q * v ≤ v') (h1 : t ≤ hr q n (k + 1)) (h2 : hr q n (k + 1) - 2 * (n : Rat) * v ≤ t)
  (a1 : f1 ≤ q * t) (a2 : q * t ≤ f1 + v') (b1 : f2 ≤ 1 / (2 * (k : Rat) + 1)) (b2 : 1 / (2 * (k : Rat) + 1) ≤ f2 + v') :
  f1 + f2 ≤ hr q (n + 1) k ∧ hr q (n + 1) k - 2 * ((n + 1 : Nat) : Rat) * v' ≤ f1 + f2:=by
 have e : ((n + 1 : Nat) : Rat) = (n : Rat) + 1:=by push_cast; rfl
 rw [e]
 have hn:=nat_nn n
 have m1:=Rat.mul_le_mul_of_nonneg_left h1 h0
 have m2:=Rat.mul_le_mul_of_nonneg_left h2 h0
 have m3:=Rat.mul_le_mul_of_nonneg_left hv (show 0 ≤ 2 * (n : Rat) by grind)
 show f1 + f2 ≤ 1 / (2 * (k : Rat) + 1) + q * hr q n (k + 1) ∧ 1 / (2 * (k : Rat) + 1) + q * hr q n (k + 1) - 2 * ((n : Rat) + 1) * v' ≤ f1 + f2
 generalize 1 / (2 * (k : Rat) + 1) = d at *
 generalize hr q n (k + 1) = H at *
 generalize (n : Rat) = N at *
 have m4 : q * (H - 2 * N * v) = q * H - 2 * N * (q * v):=by grind
 rw [m4] at m2
 generalize q * H = QH at *
 generalize q * t = QT at *
 generalize 2 * N * (q * v) = X at *
 have m5 : 2 * (N + 1) * v' = 2 * N * v' + 2 * v':=by grind
 rw [m5]
 generalize 2 * N * v' = Y at *
 clear m4 m5 hv h1 h2 h0 hn e
 constructor <;> grind
theorem ln_tan {z q u t g : Rat} {n : Nat} (hz0 : -(1 / 4) ≤ z) (hz1 : z ≤ 1 / 4) (hq : 0 ≤ q) (q1 : q ≤ z * z) (q2 : z * z ≤ q + u) (hu : 0 ≤ u) (t1 : t ≤ hr q n 0) (t2 : hr q n 0 - 2 * (n : Rat) * u ≤ t) (g1 : g ≤ z * t) (g2 : z * t ≤ g + u)
  (hr1 : rp z (2 * n + 1) ≤ u) (hr2 : -u ≤ rp z (2 * n + 1)) : UpE (2 * g - ((n : Rat) + 7) * u) ((1 + z) / (1 - z)) ∧ LoE ((1 + z) / (1 - z)) (2 * g + ((n : Rat) + 7) * u):=by
 obtain ⟨x, y⟩:=ln_both n (z:=z) (r:=u) (by grind) (by grind) hr1 hr2 hu
 have zz : z * z ≤ 1 / 16:=by
  rcases (Rat.le_total : 0 ≤ z ∨ z ≤ 0) with h | h
  ·have:=rmul_le hz1 hz1 h (by grind)
   grind
  ·have:=rmul_le (a := -z) (b:=1 / 4) (c := -z) (d:=1 / 4) (by grind) (by grind) (by grind) (by grind)
   grind
 obtain ⟨d1, d2⟩:=hr_diff hq q1 zz n 0
 have hn:=nat_nn n
 rw [art_hr] at x y
 have key : z * hr (z * z) n 0 ≤ g + ((n : Rat) / 2 + 2) * u ∧ g - ((n : Rat) / 2 + 2) * u ≤ z * hr (z * z) n 0:=by
  generalize hr (z * z) n 0 = A at *
  generalize hr q n 0 = B at *
  have hN : (n : Rat) / 2 = (n : Rat) * (1 / 2):=by rw [Rat.div_def]; grind
  rw [hN]
  generalize (n : Rat) = N at *
  clear x y hr1 hr2
  have e0 : 0 ≤ A - t:=by grind
  have hNu:=Rat.mul_nonneg hn hu
  have e1 : A - t ≤ 3 * u + 2 * (N * u):=by grind
  have p1:=Rat.mul_le_mul_of_nonneg_right hz1 e0
  have p2:=Rat.mul_le_mul_of_nonneg_right hz0 e0
  have p3 : z * A = z * t + z * (A - t):=by grind
  rw [p3]
  generalize z * (A - t) = W at *
  generalize z * t = V at *
  generalize A - t = D at *
  have p5 : (N * (1 / 2) + 2) * u = (N * u) * (1 / 2) + 2 * u:=by grind
  rw [p5]
  generalize N * u = M at *
  clear p3 p5 q1 q2 zz d1 d2 hz0 hz1 t1 t2 hN
  constructor <;> grind
 obtain ⟨k1, k2⟩:=key
 have hN : (n : Rat) / 2 = (n : Rat) * (1 / 2):=by rw [Rat.div_def]; grind
 rw [hN] at k1 k2
 generalize z * hr (z * z) n 0 = Y at *
 generalize (n : Rat) = N at *
 have hm:=x.pos
 generalize (1 + z) / (1 - z) = m at *
 clear t1 t2 g1 g2 d1 d2 q1 q2 zz hr1 hr2 hz0 hz1 hN
 have p5 : (N * (1 / 2) + 2) * u = (N * u) * (1 / 2) + 2 * u:=by grind
 have p6 : (N + 7) * u = N * u + 7 * u:=by grind
 rw [p5] at k1 k2
 rw [p6]
 generalize N * u = M at *
 exact ⟨x.mono (by grind), y.mono (by grind) (Rat.le_of_lt hm)⟩
theorem ln_next {a b m m1 x : Rat} (ha : UpE a m1) (hb : LoE m1 b) (h1 : 1 / 2 ≤ m1) (h2 : 1 / 2 ≤ m) (hx0 : 0 ≤ x) (hx : m ≤ m1 + x) (hx2 : m1 ≤ m + x) : UpE (a - 2 * x) m ∧ LoE m (b + 2 * x):=by
 have l:=exp_line (2 * x)
 have p : 0 < 1 + 2 * x:=by grind
 refine ⟨(ha.sub l p).up ?_, (hb.add l (by grind) p).down ?_⟩
 ·refine le_of_mul p ?_
  rw [Rat.mul_assoc, Rat.inv_mul_cancel _ (Rat.ne_of_gt p)]
  have:=Rat.mul_le_mul_of_nonneg_left h2 hx0
  grind
 ·have:=Rat.mul_le_mul_of_nonneg_left h1 hx0
  grind
theorem ln_argd {z0 z1 d : Rat} (h0 : -(1 / 4) ≤ z0) (h1 : z0 ≤ 1 / 4) (h2 : -(1 / 4) ≤ z1) (h3 : z1 ≤ 1 / 4) (hd0 : 0 ≤ d) (hd : z0 ≤ z1 + d) (hd2 : z1 ≤ z0 + d) : (1 + z0) / (1 - z0) ≤ (1 + z1) / (1 - z1) + 4 * d ∧ (1 + z1) / (1 - z1) ≤ (1 + z0) / (1 - z0) + 4 * d ∧ 1 / 2 ≤ (1 + z1) / (1 - z1):=by
 have p0 : (0 : Rat) < 1 - z0:=by grind
 have p1 : (0 : Rat) < 1 - z1:=by grind
 have e0:=Rat.div_mul_cancel (a:=1 + z0) (Rat.ne_of_gt p0)
 have e1:=Rat.div_mul_cancel (a:=1 + z1) (Rat.ne_of_gt p1)
 generalize (1 + z0) / (1 - z0) = A at *
 generalize (1 + z1) / (1 - z1) = B at *
 have key : (3 / 4 : Rat) * (3 / 4) ≤ (1 - z0) * (1 - z1):=rmul_le (by grind) (by grind) (by grind) (by grind)
 have k2:=Rat.mul_le_mul_of_nonneg_left key (show 0 ≤ 4 * d by grind)
 have hp : 0 < (1 - z0) * (1 - z1):=Rat.mul_pos p0 p1
 have f : (A - B) * ((1 - z0) * (1 - z1)) = 2 * (z0 - z1):=by
  have : (A - B) * ((1 - z0) * (1 - z1)) = A * (1 - z0) * (1 - z1) - B * (1 - z1) * (1 - z0):=by grind
  rw [this, e0, e1]; grind
 refine ⟨?_, ?_, le_of_mul p1 (by rw [e1]; grind)⟩
 ·have : A - B ≤ 4 * d:=le_of_mul hp (by rw [f]; grind)
  grind
 ·have : -(4 * d) ≤ A - B:=le_of_mul hp (by rw [f]; grind)
  grind
theorem ln_arg2 {m : Rat} (h1 : 7 / 10 ≤ m) (h2 : m ≤ 8 / 5) : -(1 / 5) ≤ (m - 1) / (m + 1) ∧ (m - 1) / (m + 1) ≤ 6 / 25 ∧ (1 + (m - 1) / (m + 1)) / (1 - (m - 1) / (m + 1)) = m:=by
 have hp : 0 < m + 1:=by grind
 have e:=Rat.div_mul_cancel (a:=m - 1) (Rat.ne_of_gt hp)
 generalize (m - 1) / (m + 1) = z at *
 have b1 : -(1 / 5) ≤ z:=le_of_mul hp (by rw [e]; grind)
 have b2 : z ≤ 6 / 25:=le_of_mul hp (by rw [e]; grind)
 refine ⟨b1, b2, ?_⟩
 have hq : (0 : Rat) < 1 - z:=by grind
 have e2:=Rat.div_mul_cancel (a:=1 + z) (Rat.ne_of_gt hq)
 generalize (1 + z) / (1 - z) = w at *
 have e3 : w * (1 - z) = m * (1 - z):=by grind
 exact Rat.le_antisymm (le_of_mul hq (by rw [e3]; exact Rat.le_refl)) (le_of_mul hq (by rw [e3]; exact Rat.le_refl))
theorem ln_argz {m u r z : Rat} (hm1 : 7 / 10 ≤ m) (hm2 : m ≤ 8 / 5) (hu : 0 ≤ u) (r1 : r * (m + 1) ≤ 1) (r2 : 1 ≤ (r + u) * (m + 1)) (z1 : z ≤ (m - 1) * r) (z2 : (m - 1) * r ≤ z + u) :
  (m - 1) / (m + 1) ≤ z + 2 * u ∧ z ≤ (m - 1) / (m + 1) + 2 * u:=by
 have hp : 0 < m + 1:=by grind
 have e:=Rat.div_mul_cancel (a:=m - 1) (Rat.ne_of_gt hp)
 generalize (m - 1) / (m + 1) = y at *
 -- y - (m - 1) r = (m - 1) (1 / (m + 1) - r)
 have f : (y - (m - 1) * r) * (m + 1) = (m - 1) * (1 - r * (m + 1)):=by grind
 have c0 : 0 ≤ 1 - r * (m + 1):=by grind
 have c1 : 1 - r * (m + 1) ≤ u * (m + 1):=by grind
 have c2 : 0 ≤ u * (m + 1):=Rat.mul_nonneg hu (Rat.le_of_lt hp)
 have g1 : (m - 1) * (1 - r * (m + 1)) ≤ u * (m + 1):=by
  have:=Rat.mul_le_mul_of_nonneg_right (show m - 1 ≤ 1 by grind) c0
  grind
 have g2 : -(u * (m + 1)) ≤ (m - 1) * (1 - r * (m + 1)):=by
  have:=Rat.mul_le_mul_of_nonneg_right (show -1 ≤ m - 1 by grind) c0
  grind
 rw [← f] at g1 g2
 have h1 : y - (m - 1) * r ≤ u:=le_of_mul hp g1
 have h2 : -u ≤ y - (m - 1) * r:=le_of_mul hp (by rw [Rat.neg_mul]; exact g2)
 generalize (m - 1) * r = x at *
 clear f g1 g2 c0 c1 c2 r1 r2 e
 constructor <;> grind
theorem ln_whole {m m' u r z q t g : Rat} {n : Nat} (hm1 : 3 / 4 ≤ m) (hm2 : m ≤ 3 / 2) (hu : 0 ≤ u) (hu1 : u ≤ 1 / 1000) (d1 : m ≤ m' + u) (d2 : m' ≤ m + u) (r1 : r * (m' + 1) ≤ 1) (r2 : 1 ≤ (r + u) * (m' + 1)) (z1 : z ≤ (m' - 1) * r) (z2 : (m' - 1) * r ≤ z + u)
  (hq : 0 ≤ q) (q1 : q ≤ z * z) (q2 : z * z ≤ q + u) (t1 : t ≤ hr q n 0) (t2 : hr q n 0 - 2 * (n : Rat) * u ≤ t) (g1 : g ≤ z * t) (g2 : z * t ≤ g + u)
  (hr1 : rp z (2 * n + 1) ≤ u) (hr2 : -u ≤ rp z (2 * n + 1)) : UpE (2 * g - ((n : Rat) + 25) * u) m ∧ LoE m (2 * g + ((n : Rat) + 25) * u):=by
 have e1 : 7 / 10 ≤ m':=by grind
 have e2 : m' ≤ 8 / 5:=by grind
 obtain ⟨a1, a2, a3⟩:=ln_arg2 e1 e2
 obtain ⟨b1, b2⟩:=ln_argz e1 e2 hu r1 r2 z1 z2
 have c1 : -(1 / 4) ≤ z:=by grind
 have c2 : z ≤ 1 / 4:=by grind
 obtain ⟨x, y⟩:=ln_tan c1 c2 hq q1 q2 hu t1 t2 g1 g2 hr1 hr2
 obtain ⟨f1, f2, f3⟩:=ln_argd (z0:=(m' - 1) / (m' + 1)) (z1:=z) (d:=2 * u) (by grind) (by grind) c1 c2 (by grind) b1 b2
 rw [a3] at f1 f2
 obtain ⟨p1, p2⟩:=ln_next (m:=m) (x:=9 * u) x y f3 (by grind) (by grind) (by grind) (by grind)
 have k : ((n : Rat) + 25) * u = ((n : Rat) + 7) * u + 2 * (9 * u):=by grind
 rw [k]
 generalize ((n : Rat) + 7) * u = V at *
 exact ⟨p1.mono (by grind), p2.mono (by grind) (by grind)⟩
theorem ln_argz4 {m m' u r z : Rat} (hm1 : 3 / 4 ≤ m) (hm2 : m ≤ 3 / 2) (hu : 0 ≤ u) (hu1 : u ≤ 1 / 1000) (d1 : m ≤ m' + u) (d2 : m' ≤ m + u) (r1 : r * (m' + 1) ≤ 1) (r2 : 1 ≤ (r + u) * (m' + 1)) (z1 : z ≤ (m' - 1) * r) (z2 : (m' - 1) * r ≤ z + u) : -(121 / 500) ≤ z ∧ z ≤ 121 / 500:=by
 have e1 : 7 / 10 ≤ m':=by grind
 have e2 : m' ≤ 8 / 5:=by grind
 obtain ⟨a1, a2, a3⟩:=ln_arg2 e1 e2
 obtain ⟨b1, b2⟩:=ln_argz e1 e2 hu r1 r2 z1 z2
 constructor <;> grind

theorem cut_nn {q : Rat} (h : 0 ≤ q) (p : Int) : 0 ≤ cutQ q p:=by
 unfold cutQ
 rw [Rat.le_floor_iff]
 exact Rat.mul_nonneg h (Rat.le_of_lt (dq_pos p))
theorem dq_nn {m : Int} (e : Int) (h : 0 ≤ m) : 0 ≤ dq m e:=by
 have:=(dq_le_iff 0 m e).2 h
 rwa [dq_zero] at this
theorem dq_shl (j : Nat) (m e : Int) : dq (m * 2 ^ j) e = dq m (e + (j : Int)):=dq_eq (F:=e) (by rw [show e - e = 0 by omega, show (e + (j : Int) - e).toNat = j by omega]; simp) (by omega) (by omega)
theorem dq_lt_iff (C D F : Int) : dq C F < dq D F ↔ C < D:=by
 rw [← Rat.not_le, dq_le_iff]
 omega
theorem dq1_mono {a b : Int} (h : a ≤ b) : dq 1 a ≤ dq 1 b:=by
 obtain ⟨j, rfl⟩ : ∃ j : Nat, b = a + (j : Int):=⟨(b - a).toNat, by omega⟩
 rw [← dq_shl, dq_le_iff]
 have:=pow2_pos j
 omega
theorem dq_shl1 (j : Nat) (e : Int) : dq ((2 ^ j : Nat) : Int) e = dq 1 (e + (j : Int)):=by
 rw [← dq_shl, Int.one_mul, cast2]
theorem top_iff {m e K : Int} (hK : 0 ≤ K) : topZ m e ≤ K ↔ -(dq 1 K) < dq m e ∧ dq m e < dq 1 K:=by
 unfold topZ
 by_cases h0 : m = 0
 ·subst h0
  rw [if_pos rfl, dq_zero]
  have hp:=dq_pos K
  refine ⟨fun _ => ⟨?_, hp⟩, fun _ => hK⟩
  have:=Rat.neg_lt_neg hp
  rwa [Rat.neg_zero] at this
 ·rw [if_neg h0]
  have hp : 0 < m.natAbs:=by omega
  have hb:=blen_pos hp
  have lo:=two_pow_blen_le hp
  have hi:=lt_two_pow_blen m.natAbs
  have e1 : dq ((2 ^ (blen m.natAbs - 1) : Nat) : Int) e ≤ dq (m.natAbs : Int) e:=(dq_le_iff _ _ _).2 (by omega)
  have e2 : dq (m.natAbs : Int) e < dq ((2 ^ blen m.natAbs : Nat) : Int) e:=(dq_lt_iff _ _ _).2 (by omega)
  rw [dq_shl1] at e1 e2
  have e3 : 0 ≤ dq (m.natAbs : Int) e:=dq_nn e (by omega)
  have key : (blen m.natAbs : Int) + e ≤ K ↔ dq (m.natAbs : Int) e < dq 1 K:=by
   constructor
   ·intro h
    exact rle_lt e2 (dq1_mono (by omega))
   ·intro h
    by_cases hc : (blen m.natAbs : Int) + e ≤ K
    ·exact hc
    ·have:=dq1_mono (a:=K) (b:=e + ((blen m.natAbs - 1 : Nat) : Int)) (by omega)
     exact absurd (Rat.le_trans this e1) (Rat.not_le.2 h)
  rw [key]
  have hn : -(dq 1 K) < 0:=by
   have:=Rat.neg_lt_neg (dq_pos K)
   rwa [Rat.neg_zero] at this
  rcases Int.lt_or_le m 0 with hm | hm
  ·rw [show m = -(m.natAbs : Int) from by omega, dq_neg, show (-(m.natAbs : Int)).natAbs = m.natAbs from by omega]
   constructor
   ·intro h
    refine ⟨Rat.neg_lt_neg h, rlt_le ?_ (dq_pos K)⟩
    have:=Rat.neg_le_neg e3
    rwa [Rat.neg_zero] at this
   ·rintro ⟨h, _⟩
    have:=Rat.neg_lt_neg h
    rwa [Rat.neg_neg, Rat.neg_neg] at this
  ·rw [show ((m.natAbs : Int)) = m from by omega] at e3 ⊢
   exact ⟨fun h => ⟨rle_lt hn e3, h⟩, fun h => h.2⟩
theorem nx {T x : Int} {j : Nat} (h : AbP T j) (hj : j ≤ 20000) (hx : -20000 ≤ x ∧ x ≤ 20000) :
  mkR T x = 0 ∧ zl (mkM T x) ≤ j / 32 + 1 ∧ (mkE T x = 0 ∨ (x ≤ mkE T x ∧ mkE T x ≤ x + (j : Int) + 32)) ∧ Dv (mkM T x) (mkE T x) ∧ dq (mkM T x) (mkE T x) = dq T x:=by
 have hz:=h.zl
 have hr : mkR T x = 0:=mk_fits9 (by omega) (by omega) (by omega)
 have z1:=zl_mk T x
 have z2:=mkE_at hr (k:=j / 32 + 1) hz
 exact ⟨hr, by omega, by omega, mk_ok hr, dq_mk hr⟩
theorem nx_zero {x : Int} (hx : -20000 ≤ x ∧ x ≤ 20000) : mkM 0 x = 0 ∧ mkE 0 x = 0:=by
 have hr:=(nx (x:=x) (AbP.zero 0) (by omega) hx).1
 constructor
 ·unfold mkM; rw [if_pos hr]; exact oddM_zero
 ·unfold mkE; rw [if_pos rfl]
theorem permN {p : Nat} (h : p ≤ 8192) : permB (p : Int) = true:=by
 unfold permB
 rw [decide_eq_true (show (-2048 : Int) ≤ (p : Int) by omega), decide_eq_true (show (p : Int) ≤ 8192 by omega)]
 rfl
theorem nx_add {s t x : Int} {j : Nat} (h1 : AbP s j) (h2 : AbP t j) (hj : j ≤ 6000) (hx : -6000 ≤ x ∧ x ≤ 100) :
  mkR (addS (mkM s x) (mkE s x) (mkM t x) (mkE t x)) (min (mkE s x) (mkE t x)) = 0 ∧
  mkM (addS (mkM s x) (mkE s x) (mkM t x) (mkE t x)) (min (mkE s x) (mkE t x)) = mkM (s + t) x ∧
  mkE (addS (mkM s x) (mkE s x) (mkM t x) (mkE t x)) (min (mkE s x) (mkE t x)) = mkE (s + t) x:=by
 obtain ⟨a1, a2, a3, a4, a5⟩:=nx (x:=x) h1 (by omega) (by omega)
 obtain ⟨b1, b2, b3, b4, b5⟩:=nx (x:=x) h2 (by omega) (by omega)
 have hz:=zl_addS (mkM s x) (mkE s x) (mkM t x) (mkE t x) 7500 (by omega) (by omega)
 obtain ⟨c1, _⟩:=nx (x:=x) (h1.add h2) (by omega) (by omega)
 have hr : mkR (addS (mkM s x) (mkE s x) (mkM t x) (mkE t x)) (min (mkE s x) (mkE t x)) = 0:=mk_fits9 (by omega) (by omega) (by omega)
 exact ⟨hr, mk_uniq hr c1 (by rw [dq_add, a5, b5, dq_addI])⟩
theorem one_p (p : Nat) : dq (2 ^ p) (-(p : Int)) = 1:=by rw [dq_scale]; exact two_cast p
theorem abp_of {y : Int} {p : Nat} (h0 : 0 ≤ y) (h : y ≤ 2 ^ p) : AbP y p:=by
 unfold AbP
 have : ((2 ^ p : Nat) : Int) = 2 ^ p:=by push_cast; rfl
 omega
structure SeP (Q : Int) (p zs K : Nat) : Prop where
 q0 : 0 ≤ Q
 q1 : 16 * Q < 2 ^ p
 z4 : 4 ≤ zs
 zp : (Q = 0 ∧ zs = p + 1) ∨ zs ≤ p
 qz : Q < 2 ^ (p - zs)
 kz : K * zs ≤ p
 kz2 : p < (K + 1) * zs
theorem SeP.q16 {Q : Int} {p zs K : Nat} (h : SeP Q p zs K) : 0 ≤ dq Q (-(p : Int)) ∧ dq Q (-(p : Int)) ≤ 1 / 16:=by
 have h0:=(dq_le_iff 0 Q (-(p : Int))).2 h.q0
 rw [dq_zero] at h0
 refine ⟨h0, ?_⟩
 have h1:=(dq_le_iff (16 * Q) (2 ^ p) (-(p : Int))).2 (by have:=h.q1; omega)
 rw [one_p, dq_scale (16 * Q), Rat.intCast_mul] at h1
 rw [dq_scale]
 have e : ((16 : Int) : Rat) = 16:=rfl
 rw [e] at h1
 generalize (Q : Rat) = a at *
 generalize dq 1 (-(p : Int)) = u at *
 grind
theorem SeP.k4 {Q : Int} {p zs K : Nat} (h : SeP Q p zs K) : K * 4 ≤ p:=Nat.le_trans (Nat.mul_le_mul_left K h.z4) h.kz
structure SeJ (Q : Int) (p zs K j : Nat) (x T : Int) : Prop where
 jk : j ≤ K + 1
 xe : x + (((K + 1 - j) * zs : Nat) : Int) = (p : Int)
 t0 : 0 ≤ T
 tx : T = 0 ∨ 0 ≤ x
 up : dq T (-x) ≤ hr (dq Q (-(p : Int))) j (K + 1 - j)
 lo : hr (dq Q (-(p : Int))) j (K + 1 - j) - 2 * (j : Rat) * dq 1 (-x) ≤ dq T (-x)
theorem SeJ.first {Q : Int} {p zs K : Nat} : SeJ Q p zs K 0 ((p : Int) - (((K + 1) * zs : Nat) : Int)) 0:=by
 refine ⟨by omega, by simp, by omega, Or.inl rfl, ?_, ?_⟩
 ·rw [dq_zero]; exact Rat.le_refl
 ·rw [dq_zero]
  show (0 : Rat) - 2 * ((0 : Nat) : Rat) * _ ≤ 0
  rw [show ((0 : Nat) : Rat) = 0 from rfl]
  grind
theorem SeJ.rng {Q : Int} {p zs K j : Nat} {x T : Int} (h : SeJ Q p zs K j x T) (s : SeP Q p zs K) : x ≤ (p : Int) ∧ -((p : Int) + 1) ≤ x:=by
 have h1:=h.xe
 have h2:=s.kz
 have h3 : (K + 1 - j) * zs ≤ (K + 1) * zs:=Nat.mul_le_mul_right _ (by omega)
 rw [Nat.add_mul, Nat.one_mul] at h3
 have h4:=s.zp
 omega
theorem SeJ.size {Q : Int} {p zs K j : Nat} {x T : Int} (h : SeJ Q p zs K j x T) (s : SeP Q p zs K) : AbP T (p + 1):=by
 rcases h.tx with e | hx
 ·rw [e]; exact AbP.zero _
 ·have h1:=h.rng s
  obtain ⟨X, rfl⟩ : ∃ X : Nat, x = (X : Int):=⟨x.toNat, by omega⟩
  have h2:=Rat.le_trans h.up (hr_le s.q16.1 s.q16.2 _ _)
  have h3 : dq (2 ^ (X + 1)) (-(X : Int)) = 2:=by
   rw [Int.pow_succ, dq_scale, Rat.intCast_mul]
   have:=two_cast X
   have e : ((2 : Int) : Rat) = 2:=rfl
   rw [e]
   generalize (((2 : Int) ^ X : Int) : Rat) = P at *
   generalize dq 1 (-(X : Int)) = u at *
   grind
  rw [← h3] at h2
  exact (abp_of h.t0 ((dq_le_iff _ _ _).1 h2)).up (by omega)
theorem SeJ.step {Q : Int} {p zs K j : Nat} {x T F1 F2 : Int} {kn nd : Nat} (h : SeJ Q p zs K j x T) (s : SeP Q p zs K) (hk : j + kn = K) (hn : nd + kn * zs = p) (h1 : cutQ (dq T (-x) * dq Q (-(p : Int))) (nd : Int) = F1) (h2 : cutQ (1 / (2 * (kn : Rat) + 1)) (nd : Int) = F2) :
  SeJ Q p zs K (j + 1) (nd : Int) (F1 + F2) ∧ AbP F1 (p + 1) ∧ AbP F2 (p + 1):=by
 obtain ⟨q0, q1⟩:=s.q16
 have hxe:=h.xe
 rw [show K + 1 - j = kn + 1 by omega] at hxe
 rw [Nat.add_mul, Nat.one_mul] at hxe
 have t0:=(dq_le_iff 0 T (-x)).2 h.t0
 rw [dq_zero] at t0
 have c1:=cut_lo (dq T (-x) * dq Q (-(p : Int))) (nd : Int)
 have c2:=cut_hi (dq T (-x) * dq Q (-(p : Int))) (nd : Int)
 have c0:=cut_nn (Rat.mul_nonneg t0 q0) (p:=(nd : Int))
 have d1:=cut_lo (1 / (2 * (kn : Rat) + 1)) (nd : Int)
 have d2:=cut_hi (1 / (2 * (kn : Rat) + 1)) (nd : Int)
 have d0:=cut_nn (odd_inv kn).1 (p:=(nd : Int))
 rw [h1] at c0 c1 c2
 rw [h2] at d0 d1 d2
 have hv : dq Q (-(p : Int)) * dq 1 (-x) ≤ dq 1 (-(nd : Int)):=by
  rcases s.zp with ⟨e, _⟩ | hz
  ·rw [e, dq_zero, Rat.zero_mul]
   exact Rat.le_of_lt (dq_pos _)
  ·rw [← dq_mul, Int.mul_one]
   have e : dq 1 (-(nd : Int)) = dq (2 ^ (p - zs)) (-(p : Int) + -x):=by
    refine dq_eq (F := -(p : Int) + -x) ?_ (by omega) (by omega)
    rw [show (-(nd : Int) - (-(p : Int) + -x)).toNat = p - zs by omega, show (-(p : Int) + -x - (-(p : Int) + -x)).toNat = 0 by omega]
    simp
   rw [e]
   exact (dq_le_iff _ _ _).2 (Int.le_of_lt s.qz)
 have hup:=h.up
 have hlo:=h.lo
 rw [show K + 1 - j = kn + 1 by omega] at hup hlo
 obtain ⟨r1, r2⟩:=hr_round (q:=dq Q (-(p : Int))) (v:=dq 1 (-x)) (v':=dq 1 (-(nd : Int))) (t:=dq T (-x)) (f1:=dq F1 (-(nd : Int))) (f2:=dq F2 (-(nd : Int))) (n:=j) (k:=kn) q0 hv hup hlo (by rw [Rat.mul_comm]; exact c1) (by rw [Rat.mul_comm]; exact Rat.le_of_lt c2) d1 (Rat.le_of_lt d2)
 rw [← dq_addI] at r1 r2
 have J : SeJ Q p zs K (j + 1) (nd : Int) (F1 + F2):=by
  refine ⟨by omega, ?_, by omega, Or.inr (by omega), ?_, ?_⟩
  ·rw [show K + 1 - (j + 1) = kn by omega]; omega
  ·rw [show K + 1 - (j + 1) = kn by omega]; exact r1
  ·rw [show K + 1 - (j + 1) = kn by omega]; exact r2
 have hs:=J.size s
 unfold AbP at *
 exact ⟨J, by omega, by omega⟩
theorem rp_two (a : Int) (n : Nat) : rp (dq 1 a) n = dq 1 (a * (n : Int)):=by
  induction n with
  | zero => show (1 : Rat) = _; rw [show a * ((0 : Nat) : Int) = 0 by simp]; rfl
  | succ n ih =>
    show rp (dq 1 a) n * dq 1 a = _
    rw [ih, ← dq_mul, Int.one_mul]
    congr 1
    rw [show ((n + 1 : Nat) : Int) = (n : Int) + 1 by omega, Int.mul_add, Int.mul_one]
structure SerOk (Q : Int) (p n : Nat) (T : Int) : Prop where
 t0 : 0 ≤ T
 up : dq T (-(p : Int)) ≤ hr (dq Q (-(p : Int))) n 0
 lo : hr (dq Q (-(p : Int))) n 0 - 2 * (n : Rat) * dq 1 (-(p : Int)) ≤ dq T (-(p : Int))
 sz : AbP T (p + 1)
 n4 : 4 * n ≤ p + 4
 pw : ∀ s : Rat, 0 ≤ s → s ≤ dq (Q + 1) (-(p : Int)) → rp s n ≤ dq 1 (-(p : Int))
theorem SeJ.last {Q : Int} {p zs K j : Nat} {x T : Int} (h : SeJ Q p zs K j x T) (s : SeP Q p zs K) (hj : j = K + 1) : x = (p : Int) ∧ SerOk Q p (K + 1) T:=by
 subst hj
 have hx:=h.xe
 rw [Nat.sub_self, Nat.zero_mul] at hx
 have ex : x = (p : Int):=by omega
 subst ex
 have hup:=h.up
 have hlo:=h.lo
 rw [Nat.sub_self] at hup hlo
 refine ⟨rfl, h.t0, hup, hlo, h.size s, by have:=s.k4; omega, fun t t0 t1 => ?_⟩
 rcases s.zp with ⟨e, ez⟩ | hz
 ·have hK : K = 0:=by
   refine Nat.eq_zero_of_not_pos fun h9 => ?_
   have h1:=s.kz
   rw [ez] at h1
   have:=Nat.mul_le_mul_right (p + 1) h9
   omega
  rw [hK]
  show 1 * t ≤ _
  rw [Rat.one_mul]
  rw [e] at t1
  exact t1
 ·have h1 : t ≤ dq 1 (-(zs : Int)):=by
   refine Rat.le_trans t1 ?_
   have e : dq 1 (-(zs : Int)) = dq (2 ^ (p - zs)) (-(p : Int)):=by
    refine dq_eq (F := -(p : Int)) ?_ (by omega) (by omega)
    rw [show (-(zs : Int) - -(p : Int)).toNat = p - zs by omega, show (-(p : Int) - -(p : Int)).toNat = 0 by omega]
    simp
   rw [e]
   exact (dq_le_iff _ _ _).2 (by have:=s.qz; omega)
  refine Rat.le_trans (rp_le t0 h1 (K + 1)) ?_
  rw [rp_two]
  refine dq_anti ?_
  have h2:=s.kz2
  rw [Int.neg_mul]
  have h3 : ((K + 1 : Nat) : Int) * (zs : Int) = (((K + 1) * zs : Nat) : Int):=by push_cast; rfl
  rw [Int.mul_comm]
  omega
def seT (Q : Int) (p zs K : Nat) : Nat → Int
 | 0 => 0
 | j + 1 => cutQ (dq (seT Q p zs K j) (-((p : Int) - (((K + 1 - j) * zs : Nat) : Int))) * dq Q (-(p : Int))) ((p - (K - j) * zs : Nat) : Int) + cutQ (1 / (2 * ((K - j : Nat) : Rat) + 1)) ((p - (K - j) * zs : Nat) : Int)
theorem se_nd {Q : Int} {p zs K j kn : Nat} (s : SeP Q p zs K) (hk : j + kn = K) : p - (K - j) * zs + kn * zs = p:=by
 have h1:=s.kz
 have h2 : kn * zs ≤ K * zs:=Nat.mul_le_mul_right _ (by omega)
 rw [show K - j = kn by omega]
 omega
theorem seJ_all {Q : Int} {p zs K : Nat} (s : SeP Q p zs K) : ∀ j, j ≤ K + 1 → SeJ Q p zs K j ((p : Int) - (((K + 1 - j) * zs : Nat) : Int)) (seT Q p zs K j)
  | 0, _ => SeJ.first
  | j + 1, h => by
    have ih:=seJ_all s j (by omega)
    have e:=se_nd (j:=j) (kn:=K - j) s (by omega)
    have st:=(ih.step (kn:=K - j) (nd:=p - (K - j) * zs) s (by omega) e rfl rfl).1
    have ex : (p : Int) - (((K + 1 - (j + 1)) * zs : Nat) : Int) = ((p - (K - j) * zs : Nat) : Int):=by
      rw [show K + 1 - (j + 1) = K - j by omega]
      omega
    rw [ex]
    exact st
theorem ser_ok {Q : Int} {p zs K : Nat} (s : SeP Q p zs K) : SerOk Q p (K + 1) (seT Q p zs K (K + 1)):=((seJ_all s (K + 1) (Nat.le_refl _)).last s rfl).2
theorem top_rng {m e : Int} {k : Nat} (_hv : Dv m e) (hz : zl m ≤ k) (he : -10000 ≤ e ∧ e ≤ 10000) : -10000 ≤ topZ m e ∧ topZ m e ≤ 10000 + 32 * (k : Int):=by
 have h:=blen_le_len m.natAbs
 have e1 : zl m = len m.natAbs:=rfl
 unfold topZ
 split <;> omega
theorem ser_zs {Q : Int} {p : Nat} (h0 : 0 ≤ Q) (h1 : 16 * Q < 2 ^ p) (hp : 4 ≤ p) (hp2 : p ≤ 5000) : ∃ zs K : Nat, SeP Q p zs K ∧ (p : Int).tdiv (zs : Int) = (K : Int) ∧
  ((cmpI (mkM Q (-(p : Int))) 0 == 0) = true → (zs : Int) = (p : Int) + 1) ∧ ((cmpI (mkM Q (-(p : Int))) 0 == 0) = false → -(topZ (mkM Q (-(p : Int))) (mkE Q (-(p : Int)))) = (zs : Int)):=by
 have hb : AbP Q p:=abp_of h0 (by omega)
 obtain ⟨n1, n2, n3, n4, n5⟩:=nx (x := -(p : Int)) hb (by omega) (by omega)
 have key : ∀ zs : Nat, 4 ≤ zs → ((Q = 0 ∧ zs = p + 1) ∨ zs ≤ p) → Q < 2 ^ (p - zs) → SeP Q p zs (p / zs) ∧ (p : Int).tdiv (zs : Int) = ((p / zs : Nat) : Int):=fun zs a b c =>
  ⟨⟨h0, h1, a, b, c, Nat.div_mul_le_self _ _, by have:=Nat.lt_div_mul_add (a:=p) (show 0 < zs by omega); rw [Nat.add_mul, Nat.one_mul]; exact this⟩, by rw [Int.tdiv_eq_ediv_of_nonneg (by omega)]; rfl⟩
 by_cases e : Q = 0
 ·obtain ⟨k1, k2⟩:=key (p + 1) (by omega) (Or.inl ⟨e, rfl⟩) (by rw [e, show p - (p + 1) = 0 by omega]; decide)
  refine ⟨p + 1, _, k1, k2, fun _ => by omega, fun h => ?_⟩
  rw [e, (nx_zero (by omega)).1] at h
  exact absurd h (by decide)
 ·have hq : 0 < Q.natAbs:=by omega
  have l1:=two_pow_blen_le hq
  have l2:=lt_two_pow_blen Q.natAbs
  have b1:=blen_pos hq
  have b2 : blen Q.natAbs + 4 ≤ p:=by
   have h9 : Q.natAbs * 16 < 2 ^ p:=by
    have : ((2 ^ p : Nat) : Int) = 2 ^ p:=by push_cast; rfl
    omega
   have h8 : Q.natAbs < 2 ^ (p - 4):=by
    rw [show p = p - 4 + 4 by omega, Nat.pow_add] at h9
    omega
   have:=blen_le h8
   omega
  obtain ⟨k1, k2⟩:=key (p - blen Q.natAbs) (by omega) (Or.inr (by omega)) (by
   rw [show p - (p - blen Q.natAbs) = blen Q.natAbs by omega]
   have : ((2 ^ blen Q.natAbs : Nat) : Int) = 2 ^ blen Q.natAbs:=by push_cast; rfl
   omega)
  refine ⟨p - blen Q.natAbs, _, k1, k2, fun h => ?_, fun _ => ?_⟩
  ·exfalso
   have hm : mkM Q (-(p : Int)) = 0:=by
    unfold cmpI at h
    (repeat' split at h) <;> first | omega | exact absurd h (by decide)
   have:=dq_inj (C:=Q) (D:=0) (e := -(p : Int)) (by rw [← n5, hm, dq_zero, dq_zero])
   exact e this
  ·rw [top_mk n1 e]
   omega


end Go.Proofs.YtmgbjldogggpcaaGreatDoor
