/- Joined: CoA, CoM, RefCoA, RefExA, ExG, ArPB, ArPD, ArPF, ArDv, CiU, CiA, ExM, LnM, LnP, ExA, LnT, CpM, CpN, ExZ, RdA, RdB, ExP, ExY, LnQ, IvPD, IvPC, ArPHp (what the law leans on). -/
import Derived.Test.YtiddbhhhmeopeaaGreatDoorBaseIE7
import Derived.Test.YtiddbhhhmeopeaaGreatDoorBaseJE7
import Derived.Test.YtiddbhhhmeopeaaGreatDoorBaseDE7
import Derived.Test.YtiddbhhhmeopeaaGreatDoorBaseEE7
import Derived.Test.YtiddbhhhmeopeaaGreatDoorBaseME7
import Derived.Test.YtiddbhhhmeopeaaGreatDoorBaseVE7
import Derived.Test.YtiddbhhhmeopeaaGreatDoorBaseSE7
import Derived.Test.YtiddbhhhmeopeaaGreatDoorRefGrAE7
import Derived.Test.YtiddbhhhmeopeaaGreatDoorBaseWE7
import Derived.Test.YtiddbhhhmeopeaaGreatDoorBaseGE7
import Derived.Test.YtiddbhhhmeopeaaGreatDoorBaseXE7
import Derived.Test.YtiddbhhhmeopeaaGreatDoorBaseZE7
import Derived.Test.YtiddbhhhmeopeaaGreatDoorBaseUE7
import Derived.Deep.Cut
import Derived.Deep.CutRange
import Derived.Deep.DrawnRows
import Derived.Deep.LoopGhost
import Derived.Deep.RegionHeld3
import Derived.Deep.RegionWith
import Derived.Laws.AppendOwn
import Derived.Laws.OwnMore
import Derived.Lib.SliceRun
import Derived.Lib.SmallJoins
namespace Go.Proofs.YtiddbhhhmeopeaaGreatDoor
set_option maxHeartbeats 64000000
open Go.RowKit
set_option linter.unusedVariables false
set_option linter.unusedSimpArgs false
set_option maxRecDepth 100000
attribute [local go_sem ↓] Go.wp_at_zero Go.wp_at_succ
def IsS (w : World) (v : Value) (a b : Int) : Prop:=∃ s t, v = .agg #[.bool (ng a), s, .bool (ng b), t] ∧ IsN w s a.natAbs ∧ IsN w t b.natAbs
theorem IsS.mono {w w' : World} {v : Value} {a b : Int} (h : IsS w v a b) (hb : Below w.heap.size w w') : IsS w' v a b:=by
 obtain ⟨s, t, r, hs, ht⟩:=h
 exact ⟨s, t, r, hs.mono hb, ht.mono hb⟩
section
variable {w0 w : World} {ns : List (Value × Nat)} {zs : List (Value × Int)} {qs : List (Value × Int × Nat)} {bs : List (Nat × TypeId × Array Value)}
end
theorem Var.c40 {w : World} {g : Nat} {ty : TypeId} {x0 x1 x2 x3 : Value} (h : Var w g ty #[x0, x1, x2, x3]) : w.cell? ⟨g, 0, none⟩ = some x0:=h.cell 0
theorem Var.c41 {w : World} {g : Nat} {ty : TypeId} {x0 x1 x2 x3 : Value} (h : Var w g ty #[x0, x1, x2, x3]) : w.cell? ⟨g, 1, none⟩ = some x1:=h.cell 1
theorem Var.c42 {w : World} {g : Nat} {ty : TypeId} {x0 x1 x2 x3 : Value} (h : Var w g ty #[x0, x1, x2, x3]) : w.cell? ⟨g, 2, none⟩ = some x2:=h.cell 2
theorem Var.c43 {w : World} {g : Nat} {ty : TypeId} {x0 x1 x2 x3 : Value} (h : Var w g ty #[x0, x1, x2, x3]) : w.cell? ⟨g, 3, none⟩ = some x3:=h.cell 3
def cdv (x n : Int) : Int := -(-x / n)
theorem cdv_le {x n k : Int} (hn : 0 < n) : cdv x n ≤ k ↔ x ≤ k * n:=by
 unfold cdv
 have h : -k ≤ -x / n ↔ -k * n ≤ -x:=Int.le_ediv_iff_mul_le hn
 rw [Int.neg_mul] at h
 omega
theorem le_cdv {x n : Int} (hn : 0 < n) : x ≤ cdv x n * n:=(cdv_le hn).1 (Int.le_refl _)
def AbP (x : Int) (j : Nat) : Prop:=x.natAbs ≤ 2 ^ j
theorem AbP.zl {x : Int} {j : Nat} (h : AbP x j) : zl x ≤ j / 32 + 1:=Nat.le_trans (len_mono h) (len_two j)
theorem AbP.up {x : Int} {j k : Nat} (h : AbP x j) (hk : j ≤ k) : AbP x k:=Nat.le_trans h (Nat.pow_le_pow_right (by omega) hk)
theorem AbP.add {x y : Int} {j : Nat} (h1 : AbP x j) (h2 : AbP y j) : AbP (x + y) (j + 1):=by
 unfold AbP at *
 rw [Nat.pow_succ]
 omega
theorem AbP.neg {x : Int} {j : Nat} (h : AbP x j) : AbP (-x) j:=by
 unfold AbP at *
 rw [Int.natAbs_neg]; exact h
theorem AbP.zero (j : Nat) : AbP 0 j:=Nat.zero_le _
theorem AbP.mul {x y : Int} {j k : Nat} (h1 : AbP x j) (h2 : AbP y k) : AbP (x * y) (j + k):=by
 unfold AbP at *
 rw [Int.natAbs_mul, Nat.pow_add]
 exact Nat.mul_le_mul h1 h2
def Tm (a b : Int) (f : Nat) : Prop:=0 ≤ a ∧ a ≤ b ∧ b ≤ ((2 ^ f : Nat) : Int)
theorem Tm.abs {a b : Int} {f : Nat} (h : Tm a b f) : AbP a f ∧ AbP b f:=by
 unfold Tm at h; unfold AbP
 obtain ⟨P, hP⟩ : ∃ P : Nat, 2 ^ f = P:=⟨_, rfl⟩
 rw [hP] at h ⊢
 omega
theorem tm_one (v : Nat) : Tm (2 ^ v) (2 ^ v) v:=by
 have e : ((2 ^ v : Nat) : Int) = 2 ^ v:=by simp
 have:=pow2_pos v
 unfold Tm
 omega
theorem isZ_s {w : World} {s : Value} {z : Int} (h : IsN w s z.natAbs) : IsZ w (.agg #[.bool (ng z), s]) z:=⟨s, rfl, h⟩

theorem Lq.subx {w0 w : World} {ns : List (Value × Nat)} {zs : List (Value × Int)} {qs : List (Value × Int × Nat)} {bs : List (Nat × TypeId × Array Value)} (h : Lq w0 w ns zs qs bs) {ns' : List (Value × Nat)} {bs' : List (Nat × TypeId × Array Value)} (h1 : ∀ p ∈ ns', p ∈ ns) (h2 : ∀ b ∈ bs', b ∈ bs) : Lq w0 w ns' [] [] bs':=
 ⟨h.below, fun x hx => h.ns x (h1 x hx), fun _ x => (by cases x), fun _ x => (by cases x), fun x hx => h.bs x (h2 x hx)⟩

theorem mk_fits14 {m e : Int} (h : zl m ≤ 1900) (h1 : -60000 ≤ e) (h2 : e ≤ 4000) : mkR m e = 0:=by
 unfold mkR
 rw [if_neg (by omega)]
 by_cases h0 : m = 0
 ·rw [if_pos h0]
 ·rw [if_neg h0]
  have ht:=tz_le8 m.natAbs (by omega)
  have e1 : zl m = len m.natAbs:=rfl
  have hb : blen (oddM m).natAbs ≤ 65536:=by
   have:=blen_le_len (oddM m).natAbs
   have h3:=zl_odd m
   have e2 : zl (oddM m) = len (oddM m).natAbs:=rfl
   omega
  have ho : bitB (oddM m).natAbs 0 = true:=by
   obtain ⟨k, hk⟩:=tz_form (x:=m.natAbs) (by omega)
   have hd : m.natAbs / 2 ^ tz m.natAbs = 2 * k + 1:=by
    have:=Nat.mul_div_cancel_left (2 * k + 1) (Nat.pow_pos (n:=tz m.natAbs) (show 0 < 2 by omega))
    rwa [← hk] at this
   unfold bitB
   rw [oddM_abs, hd, Nat.pow_zero, Nat.div_one]
   exact decide_eq_true (by omega)
  have hf : fits8 (oddM m) (oddE m e) = true:=by
   unfold fits8 oddE
   rw [decide_eq_true hb, decide_eq_true (by omega), decide_eq_true (by omega), ho]
   rfl
  rw [hf]
  rfl
theorem dv_shift {m e s : Int} (h : Dv m e) (hz : zl m ≤ 3) (he : -5000 ≤ e ∧ e ≤ 3000) (hs : -100 ≤ s ∧ s ≤ 100) : mkR m (e + s) = 0 ∧ mkM m (e + s) = m ∧ (m = 0 ∨ mkE m (e + s) = e + s) ∧ Dv (mkM m (e + s)) (mkE m (e + s)) ∧ dq (mkM m (e + s)) (mkE m (e + s)) = dq m e * dq 1 s:=by
 have hr:=mk_fits14 (m:=m) (e:=e + s) (by omega) (by omega) (by omega)
 have hk:=mk_ok hr
 have hq:=dq_mk hr
 have hq2:=dq_mul m e 1 s
 rw [Int.mul_one] at hq2
 by_cases h0 : m = 0
 ·refine ⟨hr, ?_, Or.inl h0, hk, hq.trans hq2⟩
  unfold mkM
  rw [if_pos hr, h0, oddM_zero]
 ·have hd : Dv m (e + s):=by
   rcases h with ⟨h1, _⟩ | ⟨_, h2⟩
   ·exact absurd h1 h0
   ·refine Or.inr ⟨h0, ?_⟩
    unfold fits8 at *
    rw [Bool.and_eq_true, Bool.and_eq_true, Bool.and_eq_true] at h2
    rw [h2.1, h2.2.2.2, decide_eq_true (show -65536 ≤ e + s by omega), decide_eq_true (show e + s ≤ 65536 by omega)]
    rfl
  obtain ⟨u1, u2⟩:=dv_uniq hk hd hq
  exact ⟨hr, u1, Or.inr u2, hk, hq.trans hq2⟩
structure ArgR (j : Nat) (m e n f : Int) : Prop where
 vm : Dv m e
 vn : Dv n f
 le : dq m e ≤ dq n f
 zm : zl m ≤ 3
 zn : zl n ≤ 3
 em : m = 0 ∨ (-40 - 20 * (j : Int) ≤ e ∧ e ≤ 136 - 20 * (j : Int))
 en : n = 0 ∨ (-40 - 20 * (j : Int) ≤ f ∧ f ≤ 136 - 20 * (j : Int))
theorem ArgR.first {m e n f : Int} (h1 : Dv m e) (h2 : Dv n f) (hl : dcm m e n f ≤ 0) (z1 : zl m ≤ 2 + 1) (z2 : zl n ≤ 2 + 1) (he : -((40 : Nat) : Int) ≤ e ∧ e ≤ ((40 : Nat) : Int) + 32 * (((2 : Nat) : Int) + 1)) (hf : -((40 : Nat) : Int) ≤ f ∧ f ≤ ((40 : Nat) : Int) + 32 * (((2 : Nat) : Int) + 1)) : ArgR 0 m e n f:=
 ⟨h1, h2, (dcm_le _ _ _ _).1 hl, z1, z2, Or.inr (by omega), Or.inr (by omega)⟩
section
variable {w0 w : World} {ns : List (Value × Nat)} {zs : List (Value × Int)} {qs : List (Value × Int × Nat)} {bs : List (Nat × TypeId × Array Value)} {g : Nat} {v0 v1 v2 v3 v4 v5 : Value}
theorem Lq.putLo (h : Lq w0 w ns zs qs ((g, 28, #[v0, v1, v2, v3, v4, v5]) :: bs)) (hg : w0.heap.size ≤ g) (hd : ∀ p ∈ bs, p.1 ≠ g) (b : Bool) (A : Option Addr) (p c : Nat) (e : Int) :
  Lq w0 (((w.setCell ⟨g, 0, none⟩ (.bool b)).setCell ⟨g, 1, none⟩ (.slice A p c)).setCell ⟨g, 2, none⟩ (.int .i64 e)) ns zs qs ((g, 28, #[.bool b, .slice A p c, .int .i64 e, v3, v4, v5]) :: bs):=
 ((h.set hg hd 0 (.bool b) (by intro x e; cases e)).set hg hd 1 (.slice A p c) (by intro x e; cases e)).set hg hd 2 (.int .i64 e) (by intro x e; cases e)
theorem Lq.putHi (h : Lq w0 w ns zs qs ((g, 28, #[v0, v1, v2, v3, v4, v5]) :: bs)) (hg : w0.heap.size ≤ g) (hd : ∀ p ∈ bs, p.1 ≠ g) (b : Bool) (A : Option Addr) (p c : Nat) (e : Int) :
  Lq w0 (((w.setCell ⟨g, 3, none⟩ (.bool b)).setCell ⟨g, 4, none⟩ (.slice A p c)).setCell ⟨g, 5, none⟩ (.int .i64 e)) ns zs qs ((g, 28, #[v0, v1, v2, .bool b, .slice A p c, .int .i64 e]) :: bs):=
 ((h.set hg hd 3 (.bool b) (by intro x e; cases e)).set hg hd 4 (.slice A p c) (by intro x e; cases e)).set hg hd 5 (.int .i64 e) (by intro x e; cases e)
end
theorem aenclR_any (a : Int) (d : Nat) (a2 : Int) (q : Nat) (k : Int) (vx vy : Value) (w : World) (hx : IsP w vx a d) (hy : IsP w vy a2 q) (la : zl a ≤ 800) (ld : len d ≤ 800) (hd : 0 < d) (lb : zl a2 ≤ 800) (lq : len q ≤ 800) (hq : 0 < q) (hw : workB k = true) (hT : Tab w) :
  Calls Tryz.prog 100 #[vx, vy, .int .i64 k, .func (.func 101) #[] #[], .func (.func 102) #[] #[]] w (RetEn w (Rat.divInt a (d : Int)) (Rat.divInt a2 (q : Int)) k):=by
 obtain ⟨wp, wk1, wk2⟩:=work_perm hw
 obtain ⟨A, c, B, i, rfl, _, _, _⟩:=hx.form
 obtain ⟨A', c', B', i', rfl, _, _, _⟩:=hy.form
 have L0:=((Lq.mk0 w).q hy).q hx
 have y4:=zl_neg a2
 have y1:=zl_cut a d hd k
 have y2:=zl_cut (-a2) q hq k
 rw [← Rat.neg_divInt] at y2
 have f1:=fun v W h (hW : Below w.heap.size w W) => gfloorR_any a d k v W h (by omega) (by omega) hd (by omega) (by omega) (hT.mono hW)
 have f2:=fun v W h (hW : Below w.heap.size w W) => gceilR_any a2 q k v W h (by omega) (by omega) hq (by omega) (by omega) (hT.mono hW)
 obtain ⟨lo, hlo⟩:=nm9 (Rat.divInt a (d : Int))
 obtain ⟨hi, hhi⟩:=nm9 (Rat.divInt a2 (q : Int))
 rw [hlo] at f1 y1 ⊢
 rw [hhi] at f2 y2 ⊢
 have y3:=zl_neg (cutQ (-hi) k)
 have y5:=zl_mk (cutQ lo k) (-k)
 have y6:=zl_mk (-(cutQ (-hi) k)) (-k)
 rw [(g_yes wp (cutQ lo k)).1, (g_yes wp (cutQ lo k)).2.1, (g_yes wp (cutQ lo k)).2.2] at f1
 rw [(g_yes wp (-(cutQ (-hi) k))).1, (g_yes wp (-(cutQ (-hi) k))).2.1, (g_yes wp (-(cutQ (-hi) k))).2.2] at f2
 have hsm:=Hd9 (fun (q1 : mkR (cutQ lo k) (-k) = 0) (q2 : mkR (-(cutQ (-hi) k)) (-k) = 0) v W h => (show Calls Tryz.prog 62 #[v] W (RetB W (enB lo hi k)) from asmall_any (enM lo k) (enE lo k) (upM hi k) (upE hi k) v W h (by unfold enM; omega) (by unfold upM; omega) (by have:=dv_bound (mk_ok q1); unfold enE; omega) (by have:=dv_bound (mk_ok q2); unfold upE; omega) (mk_ok q1) (mk_ok q2)))
 have HRT:=Hd9 (show RetEn w lo hi k = if mkR (cutQ lo k) (-k) = 0 ∧ mkR (-(cutQ (-hi) k)) (-k) = 0 ∧ enB lo hi k = true then RetIE w (enM lo k) (enE lo k) (upM hi k) (upE hi k) 0 else RetIE w 0 0 0 0 3 from by unfold RetEn; rw [if_pos hw])
 unfold enM enE upM upE at hsm HRT
 have H1:=Hd9 f1
 have H2:=Hd9 f2
 clear f1 f2 hlo hhi y1 y2 y3 y4 y5 y6 wp hx hy la ld hd lb lq hq hw hT wk1 wk2
 generalize mkR (cutQ lo k) (-k) = R1 at *
 generalize mkR (-(cutQ (-hi) k)) (-k) = R2 at *
 generalize mkM (cutQ lo k) (-k) = M at *
 generalize mkE (cutQ lo k) (-k) = E at *
 generalize mkM (-(cutQ (-hi) k)) (-k) = N at *
 generalize mkE (-(cutQ (-hi) k)) (-k) = G at *
 generalize enB lo hi k = b at *
 cases hr1 : decide (R1 = 0)
 ·replace hr1:=of_decide_eq_false hr1
  have e1 : (R1 != 0) = true:=by simpa using hr1
  have e2 : (R1 == 0) = false:=by simpa using hr1
  clear hsm
  go_enter Tryz.func100, Tryz.ntmps100
  go_wp2_with fail
  have L:=(((L0.varQ (w.heap.size) (by simp) (ng a) A B (zl a) c (len d) i).varQ (w.heap.size + 1) (by simp) (ng a2) A' B' (zl a2) c' (len q) i').varI (w.heap.size + 2) (by simp) false none 0 0 0 false none 0 0 0)
  obtain ⟨gr, hgr⟩:=nm9 (w.heap.size + 1 + 1)
  have hgr2 : w.heap.size + 2 = gr:=hgr
  rw [hgr2] at L
  rw [hgr]
  have hgw : w.heap.size + 1 < gr:=by omega
  clear hgr hgr2
  obtain ⟨cel20,cel21,cel22⟩:=L.tl.tl.b0.a3
  go_wp2_with fail
  refine (H1.out _ _ (L.getQ (v:=.agg #[.bool (ng a), .slice A (zl a) c, .slice B (len d) i]) (a:=a) (d:=d) (by simp)) L.below).mono ?_
  rintro e w1 ⟨vv, rfl, id, be⟩
  clear cel20 cel21 cel22
  obtain ⟨A8, c8, rfl, _, in9⟩:=id.form
  replace L:=(L.step be).n in9
  clear be id in9
  have hlg8:=L.b0.lt
  replace L:=L.varD w1.heap.size rfl (ng M) A8 (zl M) c8 E
  obtain ⟨cel20,cel21,cel22⟩:=L.tl.tl.b0.a3
  go_wp2_with fail
  obtain ⟨g8, hg⟩:=nm9 (w1.heap.size)
  rw [hg] at L hlg8 ⊢
  clear hg
  refine (H2.out _ _ (L.getQ (v:=.agg #[.bool (ng a2), .slice A' (zl a2) c', .slice B' (len q) i']) (a:=a2) (d:=q) (by simp)) L.below).mono ?_
  rintro e w2 ⟨vv, rfl, id, be⟩
  clear cel20 cel21 cel22
  obtain ⟨A9, c9, rfl, _, in9⟩:=id.form
  replace L:=(L.step be).n in9
  clear be id in9
  have hl9:=L.b0.lt
  replace L:=L.varD w2.heap.size rfl (ng N) A9 (zl N) c9 G
  obtain ⟨cel00,cel01,cel02⟩:=L.b0.a3
  obtain ⟨cel10,cel11,cel12⟩:=L.tl.b0.a3
  replace L:=L.varI (w2.heap.size + 1) (by simp) (ng M) A8 (zl M) c8 E (ng N) A9 (zl N) c9 G
  obtain ⟨cem00,cem01,cem02,cem03,cem04,cem05⟩:=L.b0.a6
  have R:=L.pick [(gr, 28, #[.bool false, .slice none 0 0, .int .i64 0, .bool false, .slice none 0 0, .int .i64 0])] (by simp)
  obtain ⟨r0,r1,r2,r3,r4,r5⟩:=R.b0.a6
  obtain ⟨s0,s1,s2,s3,s4,s5⟩:=R.b0.f6
  go_wp2_with fail
  have LP:=R.putI (by omega) (by simp) false none 0 0 0 false none 0 0 0
  have k0':=LP.b0.c60
  have k1':=LP.b0.c61
  have k2':=LP.b0.c62
  have k3':=LP.b0.c63
  have k4':=LP.b0.c64
  have k5':=LP.b0.c65
  unfold put6 at k0' k1' k2' k3' k4' k5'
  exact bodyPost_ret (v:=.tuple #[.agg #[.bool false, .slice none 0 0, .int .i64 0, .bool false, .slice none 0 0, .int .i64 0], .int .i64 3]) (by simp [results, Tryz.results100, go_sem, k0', k1', k2', k3', k4', k5']) rfl (by rw [HRT.out, if_neg (fun h => hr1 h.1)]; exact ⟨_, rfl, isI_zero _, LP.below⟩)
 ·obtain rfl:=of_decide_eq_true hr1
  have HR1:=Hd9 (rfl : (0 : Int) = 0)
  clear hr1
  cases hr2 : decide (R2 = 0)
  ·replace hr2:=of_decide_eq_false hr2
   have e1 : (R2 != 0) = true:=by simpa using hr2
   have e2 : (R2 == 0) = false:=by simpa using hr2
   clear hsm
   go_enter Tryz.func100, Tryz.ntmps100
   go_wp2_with fail
   have L:=(((L0.varQ (w.heap.size) (by simp) (ng a) A B (zl a) c (len d) i).varQ (w.heap.size + 1) (by simp) (ng a2) A' B' (zl a2) c' (len q) i').varI (w.heap.size + 2) (by simp) false none 0 0 0 false none 0 0 0)
   obtain ⟨gr, hgr⟩:=nm9 (w.heap.size + 1 + 1)
   have hgr2 : w.heap.size + 2 = gr:=hgr
   rw [hgr2] at L
   rw [hgr]
   have hgw : w.heap.size + 1 < gr:=by omega
   clear hgr hgr2
   obtain ⟨cel20,cel21,cel22⟩:=L.tl.tl.b0.a3
   go_wp2_with fail
   refine (H1.out _ _ (L.getQ (v:=.agg #[.bool (ng a), .slice A (zl a) c, .slice B (len d) i]) (a:=a) (d:=d) (by simp)) L.below).mono ?_
   rintro e w1 ⟨vv, rfl, id, be⟩
   clear cel20 cel21 cel22
   obtain ⟨A8, c8, rfl, _, in9⟩:=id.form
   replace L:=(L.step be).n in9
   clear be id in9
   have hlg8:=L.b0.lt
   replace L:=L.varD w1.heap.size rfl (ng M) A8 (zl M) c8 E
   obtain ⟨cel20,cel21,cel22⟩:=L.tl.tl.b0.a3
   go_wp2_with fail
   obtain ⟨g8, hg⟩:=nm9 (w1.heap.size)
   rw [hg] at L hlg8 ⊢
   clear hg
   refine (H2.out _ _ (L.getQ (v:=.agg #[.bool (ng a2), .slice A' (zl a2) c', .slice B' (len q) i']) (a:=a2) (d:=q) (by simp)) L.below).mono ?_
   rintro e w2 ⟨vv, rfl, id, be⟩
   clear cel20 cel21 cel22
   obtain ⟨A9, c9, rfl, _, in9⟩:=id.form
   replace L:=(L.step be).n in9
   clear be id in9
   have hl9:=L.b0.lt
   replace L:=L.varD w2.heap.size rfl (ng N) A9 (zl N) c9 G
   obtain ⟨cel00,cel01,cel02⟩:=L.b0.a3
   obtain ⟨cel10,cel11,cel12⟩:=L.tl.b0.a3
   replace L:=L.varI (w2.heap.size + 1) (by simp) (ng M) A8 (zl M) c8 E (ng N) A9 (zl N) c9 G
   obtain ⟨cem00,cem01,cem02,cem03,cem04,cem05⟩:=L.b0.a6
   have R:=L.pick [(gr, 28, #[.bool false, .slice none 0 0, .int .i64 0, .bool false, .slice none 0 0, .int .i64 0])] (by simp)
   obtain ⟨r0,r1,r2,r3,r4,r5⟩:=R.b0.a6
   obtain ⟨s0,s1,s2,s3,s4,s5⟩:=R.b0.f6
   go_wp2_with fail
   have LP:=R.putI (by omega) (by simp) false none 0 0 0 false none 0 0 0
   have k0':=LP.b0.c60
   have k1':=LP.b0.c61
   have k2':=LP.b0.c62
   have k3':=LP.b0.c63
   have k4':=LP.b0.c64
   have k5':=LP.b0.c65
   unfold put6 at k0' k1' k2' k3' k4' k5'
   exact bodyPost_ret (v:=.tuple #[.agg #[.bool false, .slice none 0 0, .int .i64 0, .bool false, .slice none 0 0, .int .i64 0], .int .i64 3]) (by simp [results, Tryz.results100, go_sem, k0', k1', k2', k3', k4', k5']) rfl (by rw [HRT.out, if_neg (fun h => hr2 h.2.1)]; exact ⟨_, rfl, isI_zero _, LP.below⟩)
  ·obtain rfl:=of_decide_eq_true hr2
   have HR2:=Hd9 (rfl : (0 : Int) = 0)
   have HS:=Hd9 (hsm.out rfl rfl)
   clear hr2 hsm
   go_enter Tryz.func100, Tryz.ntmps100
   go_wp2_with fail
   have L:=(((L0.varQ (w.heap.size) (by simp) (ng a) A B (zl a) c (len d) i).varQ (w.heap.size + 1) (by simp) (ng a2) A' B' (zl a2) c' (len q) i').varI (w.heap.size + 2) (by simp) false none 0 0 0 false none 0 0 0)
   obtain ⟨gr, hgr⟩:=nm9 (w.heap.size + 1 + 1)
   have hgr2 : w.heap.size + 2 = gr:=hgr
   rw [hgr2] at L
   rw [hgr]
   have hgw : w.heap.size + 1 < gr:=by omega
   clear hgr hgr2
   obtain ⟨cel20,cel21,cel22⟩:=L.tl.tl.b0.a3
   go_wp2_with fail
   refine (H1.out _ _ (L.getQ (v:=.agg #[.bool (ng a), .slice A (zl a) c, .slice B (len d) i]) (a:=a) (d:=d) (by simp)) L.below).mono ?_
   rintro e w1 ⟨vv, rfl, id, be⟩
   clear cel20 cel21 cel22
   obtain ⟨A8, c8, rfl, _, in9⟩:=id.form
   replace L:=(L.step be).n in9
   clear be id in9
   have hlg8:=L.b0.lt
   replace L:=L.varD w1.heap.size rfl (ng M) A8 (zl M) c8 E
   obtain ⟨cel20,cel21,cel22⟩:=L.tl.tl.b0.a3
   go_wp2_with fail
   obtain ⟨g8, hg⟩:=nm9 (w1.heap.size)
   rw [hg] at L hlg8 ⊢
   clear hg
   refine (H2.out _ _ (L.getQ (v:=.agg #[.bool (ng a2), .slice A' (zl a2) c', .slice B' (len q) i']) (a:=a2) (d:=q) (by simp)) L.below).mono ?_
   rintro e w2 ⟨vv, rfl, id, be⟩
   clear cel20 cel21 cel22
   obtain ⟨A9, c9, rfl, _, in9⟩:=id.form
   replace L:=(L.step be).n in9
   clear be id in9
   have hl9:=L.b0.lt
   replace L:=L.varD w2.heap.size rfl (ng N) A9 (zl N) c9 G
   obtain ⟨cel00,cel01,cel02⟩:=L.b0.a3
   obtain ⟨cel10,cel11,cel12⟩:=L.tl.b0.a3
   replace L:=L.varI (w2.heap.size + 1) (by simp) (ng M) A8 (zl M) c8 E (ng N) A9 (zl N) c9 G
   obtain ⟨cem00,cem01,cem02,cem03,cem04,cem05⟩:=L.b0.a6
   go_wp2_with fail
   refine (HS.out _ _ (isI_n (s:=.slice A8 (zl M) c8) (t:=.slice A9 (zl N) c9) (L.getN (by simp)) (L.getN (by simp)))).mono ?_
   rintro e w3 ⟨rfl, be⟩
   clear cem00 cem01 cem02 cem03 cem04 cem05 cel00 cel01 cel02 cel10 cel11 cel12
   replace L:=L.step be
   clear be
   cases b
   ·skip
    obtain ⟨cel00,cel01,cel02,cel03,cel04,cel05⟩:=L.b0.a6
    have R:=L.pick [(gr, 28, #[.bool false, .slice none 0 0, .int .i64 0, .bool false, .slice none 0 0, .int .i64 0])] (by simp)
    obtain ⟨r0,r1,r2,r3,r4,r5⟩:=R.b0.a6
    obtain ⟨s0,s1,s2,s3,s4,s5⟩:=R.b0.f6
    go_wp2_with fail
    have LP:=R.putI (by omega) (by simp) false none 0 0 0 false none 0 0 0
    have k0':=LP.b0.c60
    have k1':=LP.b0.c61
    have k2':=LP.b0.c62
    have k3':=LP.b0.c63
    have k4':=LP.b0.c64
    have k5':=LP.b0.c65
    unfold put6 at k0' k1' k2' k3' k4' k5'
    exact bodyPost_ret (v:=.tuple #[.agg #[.bool false, .slice none 0 0, .int .i64 0, .bool false, .slice none 0 0, .int .i64 0], .int .i64 3]) (by simp [results, Tryz.results100, go_sem, k0', k1', k2', k3', k4', k5']) rfl (by rw [HRT.out, if_neg (fun h => (by cases h.2.2))]; exact ⟨_, rfl, isI_zero _, LP.below⟩)
   ·skip
    obtain ⟨cel00,cel01,cel02,cel03,cel04,cel05⟩:=L.b0.a6
    have R:=L.pick [(gr, 28, #[.bool false, .slice none 0 0, .int .i64 0, .bool false, .slice none 0 0, .int .i64 0])] (by simp)
    obtain ⟨r0,r1,r2,r3,r4,r5⟩:=R.b0.a6
    obtain ⟨s0,s1,s2,s3,s4,s5⟩:=R.b0.f6
    go_wp2_with fail
    have LP:=R.putI (by omega) (by simp) (ng M) A8 (zl M) c8 E (ng N) A9 (zl N) c9 G
    have k0':=LP.b0.c60
    have k1':=LP.b0.c61
    have k2':=LP.b0.c62
    have k3':=LP.b0.c63
    have k4':=LP.b0.c64
    have k5':=LP.b0.c65
    unfold put6 at k0' k1' k2' k3' k4' k5'
    exact bodyPost_ret (v:=.tuple #[.agg #[.bool (ng M), .slice A8 (zl M) c8, .int .i64 E, .bool (ng N), .slice A9 (zl N) c9, .int .i64 G], .int .i64 0]) (by simp [results, Tryz.results100, go_sem, k0', k1', k2', k3', k4', k5']) rfl (by rw [HRT.out, if_pos ⟨HR1.out, HR2.out, by first | trivial | rfl⟩]; exact ⟨_, rfl, isI_n (LP.getN (by simp)) (LP.getN (by simp)), LP.below⟩)
def RowI (w : World) (v : Value) (l : List (Int × Int × Int × Int)) : Prop:=∃ g c, v = .slice (some ⟨g, 0, none⟩) l.length c ∧ g < w.heap.size ∧ ∀ (j : Nat) (p : Int × Int × Int × Int), l[j]? = some p → ∃ A c B d, w.cell? ⟨g, 6 * j, none⟩ = some (.bool (ng p.1)) ∧ w.cell? ⟨g, 6 * j + 1, none⟩ = some (.slice A (zl p.1) c) ∧ w.cell? ⟨g, 6 * j + 2, none⟩ = some (.int .i64 p.2.1) ∧ w.cell? ⟨g, 6 * j + 3, none⟩ = some (.bool (ng p.2.2.1)) ∧ w.cell? ⟨g, 6 * j + 4, none⟩ = some (.slice B (zl p.2.2.1) d) ∧ w.cell? ⟨g, 6 * j + 5, none⟩ = some (.int .i64 p.2.2.2) ∧ IsN w (.slice A (zl p.1) c) p.1.natAbs ∧ IsN w (.slice B (zl p.2.2.1) d) p.2.2.1.natAbs
theorem RowI.at {w w' : World} {g c n : Nat} {l : List (Int × Int × Int × Int)} (h : RowI w (.slice (some ⟨g, 0, none⟩) n c) l) (hb : Below w.heap.size w w') {j : Nat} {p : Int × Int × Int × Int} (hp : l[j]? = some p) : ∃ A c B d, w'.cell? ⟨g, 6 * j, none⟩ = some (.bool (ng p.1)) ∧ w'.cell? ⟨g, 6 * j + 1, none⟩ = some (.slice A (zl p.1) c) ∧ w'.cell? ⟨g, 6 * j + 2, none⟩ = some (.int .i64 p.2.1) ∧ w'.cell? ⟨g, 6 * j + 3, none⟩ = some (.bool (ng p.2.2.1)) ∧ w'.cell? ⟨g, 6 * j + 4, none⟩ = some (.slice B (zl p.2.2.1) d) ∧ w'.cell? ⟨g, 6 * j + 5, none⟩ = some (.int .i64 p.2.2.2) ∧ IsN w' (.slice A (zl p.1) c) p.1.natAbs ∧ IsN w' (.slice B (zl p.2.2.1) d) p.2.2.1.natAbs:=by
 obtain ⟨g', c', r, hg, h⟩:=h
 simp only [Value.slice.injEq, Option.some.injEq, Addr.mk.injEq, and_true] at r
 obtain ⟨rfl, _, _⟩:=r
 obtain ⟨A, c, B, d, h0, h1, h2, h3, h4, h5, h6, h7⟩:=h j p hp
 exact ⟨A, c, B, d, (hb.cell (p:=⟨g, 6 * j, none⟩) hg).trans h0, (hb.cell (p:=⟨g, 6 * j + 1, none⟩) hg).trans h1, (hb.cell (p:=⟨g, 6 * j + 2, none⟩) hg).trans h2, (hb.cell (p:=⟨g, 6 * j + 3, none⟩) hg).trans h3, (hb.cell (p:=⟨g, 6 * j + 4, none⟩) hg).trans h4, (hb.cell (p:=⟨g, 6 * j + 5, none⟩) hg).trans h5, h6.mono hb, h7.mono hb⟩
def qtA (m e n f : Int) : Int:=if m = 0 then 0 else (Rat.divInt m n).num * 2 ^ (e - f).toNat
def qtD (m e n f : Int) : Nat:=if m = 0 then 1 else (Rat.divInt m n).den * 2 ^ (f - e).toNat
theorem qt_pos (m e n f : Int) : 0 < qtD m e n f:=by
 unfold qtD
 split
 ·omega
 ·exact Nat.mul_pos (Rat.den_pos _) (Nat.pow_pos (by omega))
theorem dq_pow (m e : Int) : dq m e = (m : Rat) * dq 1 e:=dq_scale m e
theorem dq_one_sub (e f : Int) : dq 1 (e - f) * dq 1 f = dq 1 e:=by
 rw [← dq_mul, Int.mul_one]
 congr 1
 omega
theorem divInt_mul_r (a : Int) (d : Nat) (x y : Nat) (hx : 0 < x) (hy : 0 < y) (hd : 0 < d) : Rat.divInt (a * (x : Int)) ((d * y : Nat) : Int) = Rat.divInt a (d : Int) * Rat.divInt (x : Int) (y : Int):=by
 rw [Rat.divInt_mul_divInt]
 congr 1
theorem qt_val {m e n f : Int} (hn : n ≠ 0) : Rat.divInt (qtA m e n f) (qtD m e n f : Int) = dq m e / dq n f:=by
 have hn0 : (n : Rat) ≠ 0:=fun h => hn (Rat.intCast_eq_zero_iff.1 h)
 have hp:=dq_pos f
 have hpn : dq 1 f ≠ 0:=fun h => by rw [h] at hp; exact Rat.not_le.2 hp Rat.le_refl
 by_cases h0 : m = 0
 ·unfold qtA qtD
  rw [if_pos h0, if_pos h0, h0, dq_pow 0 e, Rat.intCast_zero, Rat.zero_mul, Rat.div_def, Rat.zero_mul]
  rfl
 ·unfold qtA qtD
  rw [if_neg h0, if_neg h0]
  have e1 : (2 : Int) ^ (e - f).toNat = ((2 ^ (e - f).toNat : Nat) : Int):=(cast2 _).symm
  rw [e1, divInt_mul_r _ _ _ _ (Nat.pow_pos (by omega)) (Nat.pow_pos (by omega)) (Rat.den_pos _), Rat.num_divInt_den]
  have e2 : Rat.divInt ((2 ^ (e - f).toNat : Nat) : Int) ((2 ^ (f - e).toNat : Nat) : Int) = dq 1 (e - f):=by
   unfold dq
   rw [Int.one_mul, cast2, show -(e - f) = f - e from by omega]
  rw [e2, dq_pow m e, dq_pow n f, ← dq_one_sub e f, Rat.div_def, Rat.inv_mul_rev]
  have e3 : Rat.divInt m n = (m : Rat) * (n : Rat)⁻¹:=by rw [← Rat.div_def]; exact Rat.divInt_eq_div m n
  rw [e3]
  have e4 : dq 1 f * (dq 1 f)⁻¹ = 1:=Rat.mul_inv_cancel _ hpn
  rw [show (m : Rat) * (dq 1 (e - f) * dq 1 f) * ((dq 1 f)⁻¹ * (n : Rat)⁻¹) = (m : Rat) * (dq 1 (e - f) * (dq 1 f * (dq 1 f)⁻¹) * (n : Rat)⁻¹) from by simp only [Rat.mul_assoc], e4, Rat.mul_one, Rat.mul_assoc, Rat.mul_comm (n : Rat)⁻¹]
theorem qt_low {m n : Int} (hn : n ≠ 0) : zl (Rat.divInt m n).num ≤ zl m ∧ len (Rat.divInt m n).den ≤ zl n:=by
 obtain ⟨e1, e2⟩:=divInt_pair m n hn
 constructor
 ·unfold zl
  rw [e1]
  exact len_mono (by rw [sg_abs]; exact Nat.div_le_self _ _)
 ·unfold zl
  rw [e2]
  exact len_mono (Nat.div_le_self _ _)
theorem qt_small {m e n f : Int} (hn : n ≠ 0) (lm : zl m ≤ 140) (ln : zl n ≤ 140) (he : -4500 ≤ e ∧ e ≤ 4500) (hf : -4500 ≤ f ∧ f ≤ 4500) : zl (qtA m e n f) ≤ 800 ∧ len (qtD m e n f) ≤ 800:=by
 obtain ⟨h1, h2⟩:=qt_low (m:=m) hn
 unfold qtA qtD
 constructor
 ·split
  ·rw [zl_zero]; omega
  ·have:=zl_two (Rat.divInt m n).num (e - f).toNat
   omega
 ·split
  ·have:=len_le1 (show 1 < 4294967296 by omega)
   omega
  ·have h3:=len_mul (Rat.divInt m n).den (2 ^ (f - e).toNat)
   have h4:=len_two (f - e).toNat
   omega

theorem anum_any (z e : Int) (vx : Value) (w : World) (hx : IsZ w vx z) (lz : zl z ≤ 1000) (he : -20000 ≤ e ∧ e ≤ 20000) :
  Calls Tryz.prog 164 #[vx, .int .i64 e] w (RetZ w (z * 2 ^ e.toNat)):=by
 obtain ⟨A, c, rfl, _⟩:=hx.form
 have L0:=(Lq.mk0 w).z hx
 have HR:=Hd9 (fun v W h => drat_any z e v W h (by omega) (by omega))
 have hfd : ∀ (x : Bool) (E F : Option Addr) (n1 n2 n3 n4 : Nat) (W : World), (Instr.field 65 (.agg #[.bool x, .slice E n1 n2, .slice F n3 n4]) 0).run Tryz.prog W = .ok (.agg #[.bool x, .slice E n1 n2]) W:=fun _ _ _ _ _ _ _ _ => by kernel_rfl
 generalize z * 2 ^ e.toNat = a at *
 generalize 2 ^ (-e).toNat = d at *
 clear hx lz he
 go_enter Tryz.func164, Tryz.ntmps164
 go_wp2_with fail
 have L:=((L0.varZ (w.heap.size) (by simp) (ng z) A (zl z) c).varZ (w.heap.size + 1) (by simp) false none 0 0)
 obtain ⟨c00,c01⟩:=L.b0.a2
 obtain ⟨f00,f01⟩:=L.b0.f2
 obtain ⟨c10,c11⟩:=L.tl.b0.a2
 (try go_wp2_with fail)
 refine (HR.out _ _ (isD_z (L.getZ (v:=.agg #[.bool (ng z), .slice A (zl z) c]) (by simp)))).mono ?_
 rintro e w1 ⟨vq, rfl, iq, be⟩
 clear c00 f00 c01 f01 c10 c11
 obtain ⟨A9, c9, B9, k9, rfl, iz9, _, _⟩:=iq.form
 replace L:=(L.step be).z iz9
 clear be iq iz9
 obtain ⟨c00,c01⟩:=L.b0.a2
 obtain ⟨f00,f01⟩:=L.b0.f2
 obtain ⟨c10,c11⟩:=L.tl.b0.a2
 (try go_wp2_with fail)
 have LP:=L.putZ (by omega) (by first | (simp; done) | (simp; omega)) (ng a) A9 (zl a) c9
 obtain ⟨k0,k1⟩:=LP.b0.a2
 unfold put2 at k0 k1
 exact bodyPost_ret (v:=.agg #[.bool (ng a), .slice A9 (zl a) c9]) (by simp [results, Tryz.results164, go_sem, k0, k1]) rfl ⟨_, rfl, LP.getZ (by simp), LP.below⟩
theorem absign_any (m e n f n2 f2 : Int) (vx vy vz : Value) (w : World) (hx : IsD w vx m e) (hy : IsD w vy n f) (hz : IsD w vz n2 f2) (lm : zl m ≤ 1000) :
  Calls Tryz.prog 99 #[vx, vy, vz] w (RetD8 w (if m < 0 then n else n2) (if m < 0 then f else f2)):=by
 obtain ⟨A, c, rfl, _, hn1⟩:=hx.form
 obtain ⟨B, d, rfl, _, hn2⟩:=hy.form
 obtain ⟨C, h, rfl, _, hn3⟩:=hz.form
 have L0:=(((Lq.mk0 w).n hn3).n hn2).n hn1
 have hs:=fun v W h => dsign_any m e v W h (by omega)
 have hc : cmpI m 0 < 0 ↔ m < 0:=by unfold cmpI; (repeat' split) <;> omega
 obtain ⟨x, hx9⟩:=nm9 (cmpI m 0)
 rw [hx9] at hs hc
 have HS:=Hd9 hs
 clear hs hx9 hx hy hz hn1 hn2 hn3 lm
 by_cases q : m < 0
 ·rw [if_pos q, if_pos q]
  have b1 : decide (x < 0) = true:=decide_eq_true (by omega)
  clear hc q
  go_enter Tryz.func99, Tryz.ntmps99
  go_wp2_with fail
  have L:=((((L0.varD (w.heap.size) (by simp) (ng m) A (zl m) c e).varD (w.heap.size + 1) (by simp) (ng n) B (zl n) d f).varD (w.heap.size + 2) (by simp) (ng n2) C (zl n2) h f2).varD (w.heap.size + 3) (by simp) false none 0 0 0)
  obtain ⟨gr, hgr⟩:=nm9 (w.heap.size + 1 + 1 + 1)
  have hgr2 : w.heap.size + 3 = gr:=hgr
  obtain ⟨gz, hgz⟩:=nm9 (w.heap.size + 1 + 1)
  have hgz2 : w.heap.size + 2 = gz:=hgz
  rw [hgr2, hgz2] at L
  rw [hgr, hgz]
  have hgr3 : w.heap.size + 2 < gr:=by omega
  have hgz3 : w.heap.size + 1 < gz:=by omega
  have hgr4 : gz < gr:=by omega
  clear hgr hgr2 hgz hgz2
  obtain ⟨c00,c01,c02⟩:=L.b0.a3
  obtain ⟨f00,f01,f02⟩:=L.b0.f3
  obtain ⟨c10,c11,c12⟩:=L.tl.b0.a3
  obtain ⟨c20,c21,c22⟩:=L.tl.tl.b0.a3
  obtain ⟨c30,c31,c32⟩:=L.tl.tl.tl.b0.a3
  (try go_wp2_with fail)
  refine (HS.out _ _ (isD_n (m:=m) (e:=e) (s:=.slice A (zl m) c) (L.getN (by simp)))).mono ?_
  rintro e w1 ⟨rfl, be⟩
  clear c00 f00 c01 f01 c02 f02 c10 c11 c12 c20 c21 c22 c30 c31 c32
  replace L:=L.step be
  clear be
  obtain ⟨c00,c01,c02⟩:=L.b0.a3
  obtain ⟨f00,f01,f02⟩:=L.b0.f3
  obtain ⟨c10,c11,c12⟩:=L.tl.b0.a3
  obtain ⟨c20,c21,c22⟩:=L.tl.tl.b0.a3
  obtain ⟨c30,c31,c32⟩:=L.tl.tl.tl.b0.a3
  (try go_wp2_with fail)
  have LP:=L.putD (by omega) (by first | (simp; done) | (simp; omega)) (ng n) B (zl n) d (f)
  obtain ⟨k0,k1,k2⟩:=LP.b0.a3
  unfold put3 at k0 k1 k2
  exact bodyPost_ret (v:=.agg #[.bool (ng n), .slice B (zl n) d, .int .i64 (f)]) (by simp [results, Tryz.results99, go_sem, k0, k1, k2]) rfl ⟨_, rfl, isD_n (LP.getN (by simp)), LP.below⟩
 ·rw [if_neg q, if_neg q]
  have b1 : decide (x < 0) = false:=decide_eq_false (by omega)
  clear hc q
  go_enter Tryz.func99, Tryz.ntmps99
  go_wp2_with fail
  have L:=((((L0.varD (w.heap.size) (by simp) (ng m) A (zl m) c e).varD (w.heap.size + 1) (by simp) (ng n) B (zl n) d f).varD (w.heap.size + 2) (by simp) (ng n2) C (zl n2) h f2).varD (w.heap.size + 3) (by simp) false none 0 0 0)
  obtain ⟨gr, hgr⟩:=nm9 (w.heap.size + 1 + 1 + 1)
  have hgr2 : w.heap.size + 3 = gr:=hgr
  obtain ⟨gz, hgz⟩:=nm9 (w.heap.size + 1 + 1)
  have hgz2 : w.heap.size + 2 = gz:=hgz
  rw [hgr2, hgz2] at L
  rw [hgr, hgz]
  have hgr3 : w.heap.size + 2 < gr:=by omega
  have hgz3 : w.heap.size + 1 < gz:=by omega
  have hgr4 : gz < gr:=by omega
  clear hgr hgr2 hgz hgz2
  obtain ⟨c00,c01,c02⟩:=L.b0.a3
  obtain ⟨f00,f01,f02⟩:=L.b0.f3
  obtain ⟨c10,c11,c12⟩:=L.tl.b0.a3
  obtain ⟨c20,c21,c22⟩:=L.tl.tl.b0.a3
  obtain ⟨c30,c31,c32⟩:=L.tl.tl.tl.b0.a3
  (try go_wp2_with fail)
  refine (HS.out _ _ (isD_n (m:=m) (e:=e) (s:=.slice A (zl m) c) (L.getN (by simp)))).mono ?_
  rintro e w1 ⟨rfl, be⟩
  clear c00 f00 c01 f01 c02 f02 c10 c11 c12 c20 c21 c22 c30 c31 c32
  replace L:=L.step be
  clear be
  obtain ⟨c00,c01,c02⟩:=L.b0.a3
  obtain ⟨f00,f01,f02⟩:=L.b0.f3
  obtain ⟨c10,c11,c12⟩:=L.tl.b0.a3
  obtain ⟨c20,c21,c22⟩:=L.tl.tl.b0.a3
  obtain ⟨c30,c31,c32⟩:=L.tl.tl.tl.b0.a3
  (try go_wp2_with fail)
  have LP:=L.putD (by omega) (by first | (simp; done) | (simp; omega)) (ng n2) C (zl n2) h (f2)
  obtain ⟨k0,k1,k2⟩:=LP.b0.a3
  unfold put3 at k0 k1 k2
  exact bodyPost_ret (v:=.agg #[.bool (ng n2), .slice C (zl n2) h, .int .i64 (f2)]) (by simp [results, Tryz.results99, go_sem, k0, k1, k2]) rfl ⟨_, rfl, isD_n (LP.getN (by simp)), LP.below⟩
theorem aquot_any (m e n f : Int) (vx vy : Value) (w : World) (hx : IsD w vx m e) (hy : IsD w vy n f) (lm : zl m ≤ 140) (ln : zl n ≤ 140) (he : -4500 ≤ e ∧ e ≤ 4500) (hf : -4500 ≤ f ∧ f ≤ 4500) (hn0 : n ≠ 0) :
  Calls Tryz.prog 98 #[vx, vy] w (RetP w (qtA m e n f) (qtD m e n f)):=by
 obtain ⟨A, c, rfl, hz1, hn1⟩:=hx.form
 obtain ⟨B, d, rfl, hz2, hn2⟩:=hy.form
 have L0:=((((Lq.mk0 w).z hz2).z hz1).n hn2).n hn1
 have hs:=fun v W h => dsign_any m e v W h (by omega)
 have hc : cmpI m 0 = 0 ↔ m = 0:=by unfold cmpI; (repeat' split) <;> omega
 obtain ⟨x, hx9⟩:=nm9 (cmpI m 0)
 rw [hx9] at hs hc
 have HS:=Hd9 hs
 clear hs hx9
 unfold qtA qtD
 by_cases q : m = 0
 ·rw [if_pos q, if_pos q]
  have hx0 : x = 0:=hc.2 q
  have b1 : (x == 0) = true:=by rw [hx0]; rfl
  have ho:=fun W => pof_any 0 W (by omega) (by omega)
  have HO:=Hd9 (fun W => (show Calls Tryz.prog 162 #[.int .i64 0] W (RetP W 0 1) from ho W))
  clear ho hc q hx hy hz1 hz2 hn1 hn2 lm ln he hf hn0 hx0
  go_enter Tryz.func98, Tryz.ntmps98
  go_wp2_with fail
  have L:=(((L0.varD (w.heap.size) (by simp) (ng m) A (zl m) c e).varD (w.heap.size + 1) (by simp) (ng n) B (zl n) d f).varQ (w.heap.size + 2) (by simp) false none none 0 0 0 0)
  obtain ⟨gr, hgr⟩:=nm9 (w.heap.size + 1 + 1)
  have hgr2 : w.heap.size + 2 = gr:=hgr
  rw [hgr2] at L
  rw [hgr]
  have hgr3 : w.heap.size + 1 < gr:=by omega
  clear hgr hgr2
  obtain ⟨c00,c01,c02⟩:=L.b0.a3
  obtain ⟨f00,f01,f02⟩:=L.b0.f3
  obtain ⟨c10,c11,c12⟩:=L.tl.b0.a3
  obtain ⟨c20,c21,c22⟩:=L.tl.tl.b0.a3
  (try go_wp2_with fail)
  refine (HS.out _ _ (isD_n (m:=m) (e:=e) (s:=.slice A (zl m) c) (L.getN (by simp)))).mono ?_
  rintro e w1 ⟨rfl, be⟩
  clear c00 f00 c01 f01 c02 f02 c10 c11 c12 c20 c21 c22
  replace L:=L.step be
  clear be
  obtain ⟨c00,c01,c02⟩:=L.b0.a3
  obtain ⟨f00,f01,f02⟩:=L.b0.f3
  obtain ⟨c10,c11,c12⟩:=L.tl.b0.a3
  obtain ⟨c20,c21,c22⟩:=L.tl.tl.b0.a3
  (try go_wp2_with fail)
  refine (HO.out _).mono ?_
  rintro e w2 ⟨vq, rfl, iq, be⟩
  clear c00 f00 c01 f01 c02 f02 c10 c11 c12 c20 c21 c22
  obtain ⟨A9, c9, B9, k9, rfl, _, _, _⟩:=iq.form
  replace L:=(L.step be).q iq
  clear be iq
  obtain ⟨c00,c01,c02⟩:=L.b0.a3
  obtain ⟨f00,f01,f02⟩:=L.b0.f3
  obtain ⟨c10,c11,c12⟩:=L.tl.b0.a3
  obtain ⟨c20,c21,c22⟩:=L.tl.tl.b0.a3
  (try go_wp2_with fail)
  have LP:=L.putQ (by omega) (by first | (simp; done) | (simp; omega)) (ng (0)) A9 B9 (zl (0)) c9 (len (1)) k9
  obtain ⟨k0,k1,k2⟩:=LP.b0.a3
  unfold put3 at k0 k1 k2
  exact bodyPost_ret (v:=.agg #[.bool (ng (0)), .slice A9 (zl (0)) c9, .slice B9 (len (1)) k9]) (by simp [results, Tryz.results98, go_sem, k0, k1, k2]) rfl ⟨_, rfl, LP.getQ (by simp), LP.below⟩
 ·rw [if_neg q, if_neg q]
  have b1 : (x == 0) = false:=by simpa using (fun h => q (hc.1 h))
  obtain ⟨z1, z2⟩:=qt_low (m:=m) hn0
  have hm:=fun v u W h1 h2 => pmake_any m n v u W h1 h2 (by omega) (by omega) hn0
  obtain ⟨p, hp⟩:=nm9 ((Rat.divInt m n).num)
  obtain ⟨r, hr⟩:=nm9 ((Rat.divInt m n).den)
  rw [hp] at hm z1 ⊢
  rw [hr] at hm z2 ⊢
  obtain ⟨s, hs⟩:=nm9 (e - f)
  have hs2 : f - e = -s:=by omega
  rw [hs, hs2]
  have w1 : IntKind.i64.wrap (e - f) = s:=by rw [hs, IntKind.wrap_i64]; omega
  have w2 : IntKind.i64.wrap (-s) = -s:=by rw [IntKind.wrap_i64]; omega
  have zr : zl ((r : Nat) : Int) ≤ 140:=by show len r ≤ 140; omega
  have n1:=fun v W h => anum_any p s v W h (by omega) (by omega)
  have n2:=fun v W h => anum_any ((r : Nat) : Int) (-s) v W h (by omega) (by omega)
  have hc2 : ((r : Nat) : Int) * 2 ^ (-s).toNat = ((r * 2 ^ (-s).toNat : Nat) : Int):=by rw [Int.natCast_mul, cast2]
  rw [hc2] at n2
  obtain ⟨a9, ha9⟩:=nm9 (p * 2 ^ s.toNat)
  obtain ⟨d9, hd9⟩:=nm9 (r * 2 ^ (-s).toNat)
  rw [ha9] at n1 ⊢
  rw [hd9] at n2 ⊢
  have HM:=Hd9 hm
  have N1:=Hd9 n1
  have N2:=Hd9 n2
  have hfd : ∀ (x : Bool) (E : Option Addr) (n1 n2 : Nat) (W : World), (Instr.field 24 (.agg #[.bool x, .slice E n1 n2]) 1).run Tryz.prog W = .ok (.slice E n1 n2) W:=fun _ _ _ _ _ => by kernel_rfl
  clear hm n1 n2 hp hr hs hs2 z1 z2 zr hc2 ha9 hd9 hc q hx hy hz1 hz2 hn1 hn2 lm ln he hf hn0
  go_enter Tryz.func98, Tryz.ntmps98
  go_wp2_with fail
  have L:=(((L0.varD (w.heap.size) (by simp) (ng m) A (zl m) c e).varD (w.heap.size + 1) (by simp) (ng n) B (zl n) d f).varQ (w.heap.size + 2) (by simp) false none none 0 0 0 0)
  obtain ⟨gr, hgr⟩:=nm9 (w.heap.size + 1 + 1)
  have hgr2 : w.heap.size + 2 = gr:=hgr
  rw [hgr2] at L
  rw [hgr]
  have hgr3 : w.heap.size + 1 < gr:=by omega
  clear hgr hgr2
  obtain ⟨c00,c01,c02⟩:=L.b0.a3
  obtain ⟨f00,f01,f02⟩:=L.b0.f3
  obtain ⟨c10,c11,c12⟩:=L.tl.b0.a3
  obtain ⟨c20,c21,c22⟩:=L.tl.tl.b0.a3
  (try go_wp2_with fail)
  refine (HS.out _ _ (isD_n (m:=m) (e:=e) (s:=.slice A (zl m) c) (L.getN (by simp)))).mono ?_
  rintro e w1 ⟨rfl, be⟩
  clear c00 f00 c01 f01 c02 f02 c10 c11 c12 c20 c21 c22
  replace L:=L.step be
  clear be
  obtain ⟨c00,c01,c02⟩:=L.b0.a3
  obtain ⟨f00,f01,f02⟩:=L.b0.f3
  obtain ⟨c10,c11,c12⟩:=L.tl.b0.a3
  obtain ⟨c20,c21,c22⟩:=L.tl.tl.b0.a3
  (try go_wp2_with fail)
  refine (HM.out _ _ _ (L.getZ (v:=.agg #[.bool (ng m), .slice A (zl m) c]) (by simp)) (L.getZ (v:=.agg #[.bool (ng n), .slice B (zl n) d]) (by simp))).mono ?_
  rintro e w2 ⟨vq, rfl, iq, be⟩
  clear c00 f00 c01 f01 c02 f02 c10 c11 c12 c20 c21 c22
  obtain ⟨A8, c8, B8, k8, rfl, iz8, _, in8⟩:=iq.form
  replace L:=((L.step be).z (isZ_nat in8)).z iz8
  clear be iq iz8 in8
  have hl8:=L.b0.lt
  have g8n : gr ≠ w2.heap.size:=by omega
  replace L:=L.varQ w2.heap.size rfl (ng p) A8 B8 (zl p) c8 (len r) k8
  obtain ⟨c00,c01,c02⟩:=L.b0.a3
  obtain ⟨c20,c21,c22⟩:=L.tl.tl.b0.a3
  obtain ⟨c30,c31,c32⟩:=L.tl.tl.tl.b0.a3
  go_wp2_with fail
  replace L:=L.swap.drew
  clear c00 c01 c02 c20 c21 c22 c30 c31 c32
  obtain ⟨c00,c01,c02⟩:=L.b0.a3
  obtain ⟨f00,f01,f02⟩:=L.b0.f3
  obtain ⟨c10,c11,c12⟩:=L.tl.b0.a3
  go_region_held3 (fun w' => w'.cell? ⟨w2.heap.size, 0, none⟩ = some (.bool (ng p)) ∧ w'.cell? ⟨w2.heap.size, 1, none⟩ = some (.slice A8 (zl p) c8) ∧ w'.cell? ⟨w2.heap.size, 2, none⟩ = some (.slice B8 (len r) k8)) (first | (with_reducible exact ⟨L.tl.b0.c30, L.tl.b0.c31, L.tl.b0.c32⟩) | exact ⟨L.tl.b0.c30, L.tl.b0.c31, L.tl.b0.c32⟩ | (have LP:=L.putQ (by omega) (by first | (simp; done) | (simp; omega)) (ng a9) A9 B9 (zl a9) c9 (zl (d9 : Int)) k9; exact ⟨LP.tl.b0.c30, LP.tl.b0.c31, LP.tl.b0.c32⟩)) (first | (go_at_call 164; (with_reducible refine (N1.out _ _ ?_ ).mono ?_); (· (refine L.getZ ?_; (repeat (first | (with_reducible exact mS) | apply mT)))); rintro e wh ⟨vh, rfl, iz, be⟩; obtain ⟨A9, c9, rfl, in9⟩:=iz.form; replace L:=(L.step be).n in9; clear be iz in9; (try (obtain ⟨x00,x01,x02⟩:=L.b0.a3; obtain ⟨y00,y01,y02⟩:=L.b0.f3))) | (go_at_call 164; (with_reducible refine (N2.out _ _ ?_ ).mono ?_); (· (refine L.getZ ?_; (repeat (first | (with_reducible exact mS) | apply mT)))); rintro e wh ⟨vh, rfl, iz, be⟩; obtain ⟨B9, k9, rfl, in9⟩:=iz.form; replace L:=(L.step be).n in9; clear be iz in9; (try (obtain ⟨x00,x01,x02⟩:=L.b0.a3; obtain ⟨y00,y01,y02⟩:=L.b0.f3))))
  clear c00 f00 c01 f01 c02 f02 c10 c11 c12
  go_wp2_with fail
  have LP:=L.putQ (by omega) (by first | (simp; done) | (simp; omega)) (ng a9) A9 B9 (zl a9) c9 (zl (d9 : Int)) k9
  obtain ⟨k0,k1,k2⟩:=LP.b0.a3
  unfold put3 at k0 k1 k2
  exact bodyPost_ret (v:=.agg #[.bool (ng a9), .slice A9 (zl a9) c9, .slice B9 (zl (d9 : Int)) k9]) (by simp [results, Tryz.results98, go_sem, k0, k1, k2]) rfl ⟨_, rfl, ⟨_, _, rfl, LP.getN (by simp), (show IsN _ _ (d9 : Int).natAbs from LP.getN (by simp))⟩, LP.below⟩
theorem div_ends {a b c d : Rat} (hab : a ≤ b) (hc : 0 < c) (hcd : c ≤ d) : (if a < 0 then a / c else a / d) = min4 (a / c) (a / d) (b / c) (b / d) ∧ (if b < 0 then b / d else b / c) = max4 (a / c) (a / d) (b / c) (b / d):=by
 have hd : 0 < d:=rle_lt hc hcd
 have i1:=inv_anti hc hcd
 have i2:=Rat.le_of_lt (inv_pos hc)
 have i3:=Rat.le_of_lt (inv_pos hd)
 simp only [Rat.div_def]
 have b1:=mul_nn hab i2
 have b2:=mul_nn hab i3
 have m4:=min4_le (a * c⁻¹) (a * d⁻¹) (b * c⁻¹) (b * d⁻¹)
 have M4:=le_max4 (a * c⁻¹) (a * d⁻¹) (b * c⁻¹) (b * d⁻¹)
 constructor
 ·by_cases h : a < 0
  ·rw [if_pos h]
   have a1:=mul_np i1 (Rat.le_of_lt h)
   rw [Rat.mul_comm, Rat.mul_comm d⁻¹] at a1
   exact Rat.le_antisymm (le_min4 Rat.le_refl a1 b1 (Rat.le_trans a1 b2)) m4.1
  ·rw [if_neg h]
   have a1:=mul_nn i1 (Rat.not_lt.1 h)
   rw [Rat.mul_comm, Rat.mul_comm c⁻¹] at a1
   exact Rat.le_antisymm (le_min4 a1 Rat.le_refl (Rat.le_trans a1 b1) b2) m4.2.1
 ·by_cases h : b < 0
  ·rw [if_pos h]
   have a1:=mul_np i1 (Rat.le_of_lt h)
   rw [Rat.mul_comm, Rat.mul_comm d⁻¹] at a1
   exact Rat.le_antisymm M4.2.2.2 (max4_le (Rat.le_trans b1 a1) b2 a1 Rat.le_refl)
  ·rw [if_neg h]
   have a1:=mul_nn i1 (Rat.not_lt.1 h)
   rw [Rat.mul_comm, Rat.mul_comm c⁻¹] at a1
   exact Rat.le_antisymm M4.2.2.1 (max4_le b1 (Rat.le_trans b2 a1) Rat.le_refl a1)
theorem dq_lt0 (m e : Int) : dq m e < 0 ↔ m < 0:=by
 have h:=dcm_lt m e 0 0
 rw [dcm_zero, show dq 0 0 = 0 from rfl] at h
 rw [← h]
 unfold cmpI
 (repeat' split) <;> omega
theorem dq_gt0 (m e : Int) : 0 < dq m e ↔ 0 < m:=by
 have h:=dcm_lt 0 0 m e
 rw [dcm_swap m e 0 0, dcm_zero, show dq 0 0 = 0 from rfl] at h
 rw [← h]
 unfold cmpI
 (repeat' split) <;> omega
theorem quo_lo {m e n f m2 e2 n2 f2 : Int} (h1 : dcm m e n f ≤ 0) (h2 : dcm m2 e2 n2 f2 ≤ 0) (hp : 0 < m2) (hp2 : 0 < n2) : Rat.divInt (qtA m e (if m < 0 then m2 else n2) (if m < 0 then e2 else f2)) (qtD m e (if m < 0 then m2 else n2) (if m < 0 then e2 else f2) : Int) = min4 (dq m e / dq m2 e2) (dq m e / dq n2 f2) (dq n f / dq m2 e2) (dq n f / dq n2 f2):=by
 rw [← (div_ends ((dcm_le _ _ _ _).1 h1) ((dq_gt0 m2 e2).2 hp) ((dcm_le _ _ _ _).1 h2)).1]
 have hs:=dq_lt0 m e
 by_cases h : m < 0
 ·rw [if_pos h, if_pos h, if_pos (hs.2 h)]
  exact qt_val (by omega)
 ·rw [if_neg h, if_neg h, if_neg (fun h9 => h (hs.1 h9))]
  exact qt_val (by omega)
theorem quo_hi {m e n f m2 e2 n2 f2 : Int} (h1 : dcm m e n f ≤ 0) (h2 : dcm m2 e2 n2 f2 ≤ 0) (hp : 0 < m2) (hp2 : 0 < n2) : Rat.divInt (qtA n f (if n < 0 then n2 else m2) (if n < 0 then f2 else e2)) (qtD n f (if n < 0 then n2 else m2) (if n < 0 then f2 else e2) : Int) = max4 (dq m e / dq m2 e2) (dq m e / dq n2 f2) (dq n f / dq m2 e2) (dq n f / dq n2 f2):=by
 rw [← (div_ends ((dcm_le _ _ _ _).1 h1) ((dq_gt0 m2 e2).2 hp) ((dcm_le _ _ _ _).1 h2)).2]
 have hs:=dq_lt0 n f
 by_cases h : n < 0
 ·rw [if_pos h, if_pos h, if_pos (hs.2 h)]
  exact qt_val (by omega)
 ·rw [if_neg h, if_neg h, if_neg (fun h9 => h (hs.1 h9))]
  exact qt_val (by omega)
theorem cmp_signs {m n : Int} (h : cmpI m 0 = cmpI n 0) : (cmpI m 0 < 0 → m < 0 ∧ n < 0) ∧ (¬ cmpI m 0 < 0 → cmpI m 0 ≠ 0 → 0 < m ∧ 0 < n):=by
 unfold cmpI at *
 (repeat' split at *) <;> omega
theorem Lq.name {w0 w : World} {ns : List (Value × Nat)} {zs : List (Value × Int)} {qs : List (Value × Int × Nat)} {bs : List (Nat × TypeId × Array Value)} (h : Lq w0 w ns zs qs bs) : ∃ x, w = x ∧ Lq w0 x ns zs qs bs:=⟨w, rfl, h⟩


theorem of17_any (a b : Int) (w : World) (h1 : -4000 ≤ a ∧ a ≤ 4000) (h2 : -4000 ≤ b ∧ b ≤ 4000) :
  Calls Tryz.prog 45 #[.int .i64 a, .int .i64 b] w (RetI6 w (mkM a 0) (mkE a 0) (mkM b 0) (mkE b 0)):=by
 have HA:=Hd9 (fun W => rof8_any a W (by omega) (by omega))
 have HB:=Hd9 (fun W => rof8_any b W (by omega) (by omega))
 generalize mkM a 0 = m at *
 generalize mkE a 0 = e at *
 generalize mkM b 0 = n at *
 generalize mkE b 0 = f at *
 clear h1 h2
 go_enter Tryz.func45, Tryz.ntmps45
 go_wp2_with fail
 have L:=((Lq.mk0 w).varI (w.heap.size) (by simp) false none 0 0 0 false none 0 0 0)
 obtain ⟨c00,c01,c02,c03,c04,c05⟩:=L.b0.a6
 obtain ⟨f00,f01,f02,f03,f04,f05⟩:=L.b0.f6
 (try go_wp2_with fail)
 refine (HA.out _).mono ?_
 rintro e w1 ⟨v1, rfl, id, be⟩
 clear c00 f00 c01 f01 c02 f02 c03 f03 c04 f04 c05 f05
 obtain ⟨A, c, rfl, _, in9⟩:=id.form
 replace L:=(L.step be).n in9
 clear be id in9
 obtain ⟨c00,c01,c02,c03,c04,c05⟩:=L.b0.a6
 obtain ⟨f00,f01,f02,f03,f04,f05⟩:=L.b0.f6
 (try go_wp2_with fail)
 refine (HB.out _).mono ?_
 rintro e w2 ⟨v2, rfl, id, be⟩
 clear c00 f00 c01 f01 c02 f02 c03 f03 c04 f04 c05 f05
 obtain ⟨B, d, rfl, _, in9⟩:=id.form
 replace L:=(L.step be).n in9
 clear be id in9
 obtain ⟨c00,c01,c02,c03,c04,c05⟩:=L.b0.a6
 obtain ⟨f00,f01,f02,f03,f04,f05⟩:=L.b0.f6
 (try go_wp2_with fail)
 have LP:=L.putI (by omega) (by first | (simp; done) | (simp; omega)) (ng m) A (zl m) c e (ng n) B (zl n) d f
 obtain ⟨k0,k1,k2,k3,k4,k5⟩:=LP.b0.a6
 unfold put6 at k0 k1 k2 k3 k4 k5
 exact bodyPost_ret (v:=.agg #[.bool (ng m), .slice A (zl m) c, .int .i64 e, .bool (ng n), .slice B (zl n) d, .int .i64 f]) (by simp [results, Tryz.results45, go_sem, k0, k1, k2, k3, k4, k5]) rfl ⟨_, rfl, isI_n (LP.getN (by simp)) (LP.getN (by simp)), LP.below⟩

theorem plainAn (b : Bool) (A : Option Addr) (n c : Nat) (e p : Int) : Plain #[.bool b, .slice A n c, .int .i64 e, .int .i64 p]:=fun j x => by
 match j with
 | 0 => simp
 | 1 => simp
 | 2 => simp
 | 3 => simp
 | j + 4 => simp
theorem plainDi (t : Int) (b : Bool) (A : Option Addr) (n c : Nat) (e p : Int) : Plain #[.int .i64 t, .bool b, .slice A n c, .int .i64 e, .int .i64 p]:=fun j x => by
 match j with
 | 0 => simp
 | 1 => simp
 | 2 => simp
 | 3 => simp
 | 4 => simp
 | j + 5 => simp
section
variable {w0 w : World} {ns : List (Value × Nat)} {zs : List (Value × Int)} {qs : List (Value × Int × Nat)} {bs : List (Nat × TypeId × Array Value)}
theorem Lq.varAn (h : Lq w0 w ns zs qs bs) (g : Nat) (hg : g = w.heap.size) (b : Bool) (A : Option Addr) (n c : Nat) (e p : Int) : Lq w0 (w.alloc (.cells #[.bool b, .slice A n c, .int .i64 e, .int .i64 p] 148)) ns zs qs ((g, 148, #[.bool b, .slice A n c, .int .i64 e, .int .i64 p]) :: bs):=h.var g hg _ _ (plainAn _ _ _ _ _ _)
theorem Lq.varDi (h : Lq w0 w ns zs qs bs) (g : Nat) (hg : g = w.heap.size) (t : Int) (b : Bool) (A : Option Addr) (n c : Nat) (e p : Int) : Lq w0 (w.alloc (.cells #[.int .i64 t, .bool b, .slice A n c, .int .i64 e, .int .i64 p] 150)) ns zs qs ((g, 150, #[.int .i64 t, .bool b, .slice A n c, .int .i64 e, .int .i64 p]) :: bs):=h.var g hg _ _ (plainDi _ _ _ _ _ _ _)
end
theorem Var.c50 {w : World} {g : Nat} {ty : TypeId} {x0 x1 x2 x3 x4 : Value} (h : Var w g ty #[x0, x1, x2, x3, x4]) : w.cell? ⟨g, 0, none⟩ = some x0:=h.cell 0
theorem Var.c51 {w : World} {g : Nat} {ty : TypeId} {x0 x1 x2 x3 x4 : Value} (h : Var w g ty #[x0, x1, x2, x3, x4]) : w.cell? ⟨g, 1, none⟩ = some x1:=h.cell 1
theorem Var.c52 {w : World} {g : Nat} {ty : TypeId} {x0 x1 x2 x3 x4 : Value} (h : Var w g ty #[x0, x1, x2, x3, x4]) : w.cell? ⟨g, 2, none⟩ = some x2:=h.cell 2
theorem Var.c53 {w : World} {g : Nat} {ty : TypeId} {x0 x1 x2 x3 x4 : Value} (h : Var w g ty #[x0, x1, x2, x3, x4]) : w.cell? ⟨g, 3, none⟩ = some x3:=h.cell 3
theorem Var.c54 {w : World} {g : Nat} {ty : TypeId} {x0 x1 x2 x3 x4 : Value} (h : Var w g ty #[x0, x1, x2, x3, x4]) : w.cell? ⟨g, 4, none⟩ = some x4:=h.cell 4
def IsA (w : World) (v : Value) (m e p : Int) : Prop:=∃ s, v = .agg #[.bool (ng m), s, .int .i64 e, .int .i64 p] ∧ IsN w s m.natAbs
theorem IsA.form {w : World} {v : Value} {m e p : Int} (h : IsA w v m e p) : ∃ A c, v = .agg #[.bool (ng m), .slice A (zl m) c, .int .i64 e, .int .i64 p] ∧ IsN w (.slice A (zl m) c) m.natAbs:=by
 obtain ⟨s, r, hs⟩:=h
 obtain ⟨A, c, e1⟩:=hs.form
 subst e1
 exact ⟨A, c, r, hs⟩
theorem isA_n {w : World} {s : Value} {m e p : Int} (h : IsN w s m.natAbs) : IsA w (.agg #[.bool (ng m), s, .int .i64 e, .int .i64 p]) m e p:=⟨s, rfl, h⟩
def IsX (w : World) (v : Value) (t m e p : Int) : Prop:=∃ s, v = .agg #[.int .i64 t, .bool (ng m), s, .int .i64 e, .int .i64 p] ∧ IsN w s m.natAbs
theorem IsX.form {w : World} {v : Value} {t m e p : Int} (h : IsX w v t m e p) : ∃ A c, v = .agg #[.int .i64 t, .bool (ng m), .slice A (zl m) c, .int .i64 e, .int .i64 p] ∧ IsN w (.slice A (zl m) c) m.natAbs:=by
 obtain ⟨s, r, hs⟩:=h
 obtain ⟨A, c, e1⟩:=hs.form
 subst e1
 exact ⟨A, c, r, hs⟩
theorem isX_n {w : World} {s : Value} {t m e p : Int} (h : IsN w s m.natAbs) : IsX w (.agg #[.int .i64 t, .bool (ng m), s, .int .i64 e, .int .i64 p]) t m e p:=⟨s, rfl, h⟩
def sqn : Nat → Rat → Rat
 | 0, b => b
 | n + 1, b => sqn n b * sqn n b
theorem sqn_succ (n : Nat) (b : Rat) : sqn (n + 1) b = sqn n b * sqn n b:=rfl
theorem sqn_nn {n : Nat} {b : Rat} (h : 0 ≤ b) : 0 ≤ sqn n b:=by
 induction n with
 | zero => exact h
 | succ n ih => exact Rat.mul_nonneg ih ih
theorem rmul_le {a b c d : Rat} (h1 : a ≤ b) (h2 : c ≤ d) (h3 : 0 ≤ c) (h4 : 0 ≤ b) : a * c ≤ b * d:=
 Rat.le_trans (Rat.mul_le_mul_of_nonneg_right h1 h3) (Rat.mul_le_mul_of_nonneg_left h2 h4)
theorem rsq_nn (x : Rat) : 0 ≤ x * x:=by
 by_cases h3 : 0 ≤ x
 ·exact Rat.mul_nonneg h3 h3
 ·have:=Rat.mul_nonneg (show 0 ≤ -x by grind) (show 0 ≤ -x by grind)
  grind
theorem sqn_mono {n : Nat} {b c : Rat} (h : 0 ≤ b) (h2 : b ≤ c) : sqn n b ≤ sqn n c:=by
 induction n with
 | zero => exact h2
 | succ n ih => exact rmul_le ih ih (sqn_nn h) (Rat.le_trans (sqn_nn h) ih)
theorem sqn_two (n : Nat) (b : Rat) : sqn (n + 1) b = sqn n (b * b):=by
 induction n with
 | zero => rfl
 | succ n ih => rw [sqn_succ, ih, sqn_succ]
theorem sqn_mul (n : Nat) (b c : Rat) : sqn n (b * c) = sqn n b * sqn n c:=by
 induction n with
 | zero => rfl
 | succ n ih => rw [sqn_succ, sqn_succ, sqn_succ, ih]; grind
theorem sqn_one (n : Nat) : sqn n 1 = 1:=by
 induction n with
 | zero => rfl
 | succ n ih => rw [sqn_succ, ih]; grind
theorem sqn_pos {n : Nat} {b : Rat} (h : 0 < b) : 0 < sqn n b:=by
 induction n with
 | zero => exact h
 | succ n ih => exact Rat.mul_pos ih ih
def hn : Nat → Rat
 | 0 => 1
 | n + 1 => hn n / 2
theorem hn_succ (n : Nat) : hn (n + 1) = hn n / 2:=rfl
theorem hn_pos (n : Nat) : 0 < hn n:=by
 induction n with
 | zero => decide
 | succ n ih => rw [hn_succ]; grind
theorem hn_le {n k : Nat} (h : n ≤ k) : hn k ≤ hn n:=by
  induction k with
  | zero => rw [show n = 0 by omega]; exact Rat.le_refl
  | succ k ih =>
    by_cases h2 : n ≤ k
    · have:=ih h2
      have:=hn_pos k
      rw [hn_succ]
      grind
    · rw [show n = k + 1 by omega]; exact Rat.le_refl
theorem bern (n : Nat) {y : Rat} (h : -1 ≤ y) : 1 + y ≤ sqn n (1 + y * hn n):=by
  induction n generalizing y with
  | zero => show 1 + y ≤ 1 + y * 1; grind
  | succ n ih =>
    have hp:=hn_pos n
    have hq:=hn_le (Nat.zero_le n)
    have h1 : hn 0 = 1:=rfl
    refine Rat.le_trans (ih h) ?_
    rw [sqn_two, hn_succ]
    refine sqn_mono ?_ ?_
    · have : -1 * hn n ≤ y * hn n:=Rat.mul_le_mul_of_nonneg_right h (Rat.le_of_lt hp)
      grind
    · have:=rsq_nn (y * (hn n / 2))
      grind
def exF (n : Nat) (x : Rat) : Rat:=sqn n (1 + x * hn n)
theorem exF_up {n : Nat} {x : Rat} (h : 0 ≤ 1 + x * hn n) : exF n x ≤ exF (n + 1) x:=by
 unfold exF
 rw [sqn_two, hn_succ]
 refine sqn_mono h ?_
 have:=rsq_nn (x * (hn n / 2))
 grind
theorem exF_mono {n : Nat} {x y : Rat} (h : 0 ≤ 1 + x * hn n) (h2 : x ≤ y) : exF n x ≤ exF n y:=by
 refine sqn_mono h ?_
 have:=Rat.mul_le_mul_of_nonneg_right h2 (Rat.le_of_lt (hn_pos n))
 grind
theorem nat_above (x : Rat) : ∃ M : Nat, x ≤ (M : Rat) ∧ -x ≤ (M : Rat):=by
 have up : ∀ y : Rat, ∃ M : Nat, y ≤ (M : Rat):=fun y => by
  refine ⟨(y.floor + 1).toNat, ?_⟩
  have h1 : ¬ ((y.floor + 1 : Int) : Rat) ≤ y:=fun h => by
   have:=Rat.le_floor_iff.2 h
   omega
  have h2 : y ≤ ((y.floor + 1 : Int) : Rat):=Rat.le_of_lt (Rat.not_le.1 h1)
  refine Rat.le_trans h2 ?_
  have h3 : y.floor + 1 ≤ (((y.floor + 1).toNat : Nat) : Int):=Int.self_le_toNat _
  have:=Rat.intCast_le_intCast.2 h3
  rwa [Rat.intCast_natCast] at this
 obtain ⟨M, h1⟩:=up x
 obtain ⟨K, h2⟩:=up (-x)
 refine ⟨M + K, ?_, ?_⟩
 ·have : (0 : Rat) ≤ (K : Rat):=by exact_mod_cast Nat.zero_le K
  have e : ((M + K : Nat) : Rat) = (M : Rat) + (K : Rat):=by push_cast; rfl
  grind
 ·have : (0 : Rat) ≤ (M : Rat):=by exact_mod_cast Nat.zero_le M
  have e : ((M + K : Nat) : Rat) = (M : Rat) + (K : Rat):=by push_cast; rfl
  grind
theorem nat_hn (k : Nat) : (k : Rat) * hn k ≤ 1:=by
  induction k with
  | zero => rw [show ((0 : Nat) : Rat) = 0 from rfl]; grind
  | succ k ih =>
    rw [hn_succ]
    have:=hn_pos k
    have h1:=hn_le (Nat.zero_le k)
    have h0 : hn 0 = 1:=rfl
    have e : ((k + 1 : Nat) : Rat) = (k : Rat) + 1:=by push_cast; rfl
    rw [e]
    grind
theorem small_hn (x : Rat) {e : Rat} (he : 0 < e) : ∃ N, ∀ n, N ≤ n → -e ≤ x * hn n ∧ x * hn n ≤ e:=by
 obtain ⟨M, h1, h2⟩:=nat_above (x / e)
 refine ⟨M, fun n hn' => ?_⟩
 have h3:=nat_hn M
 have h4:=hn_le hn'
 have h5:=hn_pos n
 have hM : (0 : Rat) ≤ (M : Rat):=by exact_mod_cast Nat.zero_le M
 have h6 : (M : Rat) * hn n ≤ 1:=Rat.le_trans (Rat.mul_le_mul_of_nonneg_left h4 hM) h3
 have a1 : x / e * hn n ≤ (M : Rat) * hn n:=Rat.mul_le_mul_of_nonneg_right h1 (Rat.le_of_lt h5)
 have a2 : -(x / e) * hn n ≤ (M : Rat) * hn n:=Rat.mul_le_mul_of_nonneg_right h2 (Rat.le_of_lt h5)
 have b1 : x / e * hn n * e ≤ 1 * e:=Rat.mul_le_mul_of_nonneg_right (Rat.le_trans a1 h6) (Rat.le_of_lt he)
 have b2 : -(x / e) * hn n * e ≤ 1 * e:=Rat.mul_le_mul_of_nonneg_right (Rat.le_trans a2 h6) (Rat.le_of_lt he)
 have c : x / e * e = x:=by grind
 constructor
 ·have : -(x / e) * hn n * e = -(x * hn n):=by rw [show -(x / e) * hn n * e = -(x / e * e * hn n) by grind, c]
  grind
 ·have : x / e * hn n * e = x * hn n:=by rw [show x / e * hn n * e = x / e * e * hn n by grind, c]
  grind
theorem lim_le {q r C : Rat} {M : Nat} (h : ∀ n, M ≤ n → q ≤ r + C * hn n) : q ≤ r:=by
 refine Rat.not_lt.1 fun hlt => ?_
 obtain ⟨N, hN⟩:=small_hn C (show 0 < (q - r) / 2 by grind)
 have h1:=h (max M N) (Nat.le_max_left _ _)
 have h2:=(hN (max M N) (Nat.le_max_right _ _)).2
 grind
theorem exF_pos {n : Nat} {x : Rat} (h : -(1 / 2) ≤ x * hn n) : 0 < exF n x:=sqn_pos (by grind)
theorem half_base (x : Rat) : ∃ N, ∀ n, N ≤ n → -(1 / 2) ≤ x * hn n ∧ x * hn n ≤ 1 / 2:=small_hn x (by grind)
theorem exF_ups {x : Rat} {n k : Nat} (h : ∀ j, n ≤ j → -(1 / 2) ≤ x * hn j) (hk : n ≤ k) : exF n x ≤ exF k x:=by
  induction k with
  | zero => rw [show n = 0 by omega]; exact Rat.le_refl
  | succ k ih =>
    by_cases h2 : n ≤ k
    · refine Rat.le_trans (ih h2) (exF_up ?_)
      have:=h k h2
      grind
    · rw [show n = k + 1 by omega]; exact Rat.le_refl
def UpE (x b : Rat) : Prop:=∃ N, ∀ n, N ≤ n → exF n x ≤ b
def LoE (a x : Rat) : Prop:=∃ N, ∀ n, N ≤ n → a * exF n (-x) ≤ 1
theorem UpE.pos {x b : Rat} (h : UpE x b) : 0 < b:=by
 obtain ⟨N, h⟩:=h
 obtain ⟨M, hM⟩:=half_base x
 have h1:=h (max N M) (Nat.le_max_left _ _)
 have h2:=exF_pos (hM (max N M) (Nat.le_max_right _ _)).1
 grind
theorem upE_lim {x b C : Rat} {M : Nat} (h : ∀ n, M ≤ n → exF n x ≤ b + C * hn n) : UpE x b:=by
 obtain ⟨N, hN⟩:=half_base x
 refine ⟨N, fun n hn' => ?_⟩
 refine lim_le (C:=C) (M:=max M n) fun k hk => ?_
 have h1:=exF_ups (x:=x) (n:=n) (k:=k) (fun j hj => (hN j (by omega)).1) (by omega)
 exact Rat.le_trans h1 (h k (by omega))
theorem exF_prod (n : Nat) (x : Rat) : exF n x * exF n (-x) = sqn n (1 + -(x * x * hn n) * hn n):=by
 unfold exF
 rw [← sqn_mul]
 congr 1
 grind
theorem exF_pair {x : Rat} : ∃ N, ∀ n, N ≤ n → 1 - x * x * hn n ≤ exF n x * exF n (-x):=by
 obtain ⟨N, hN⟩:=small_hn (x * x) (show (0 : Rat) < 1 by grind)
 refine ⟨N, fun n h => ?_⟩
 rw [exF_prod]
 have h1:=hN n h
 have:=bern n (y := -(x * x * hn n)) (by grind)
 grind
theorem LoE.le {a x b : Rat} (h1 : LoE a x) (h2 : UpE x b) : a ≤ b:=by
 have hb:=h2.pos
 by_cases ha : a ≤ 0
 ·grind
 obtain ⟨N1, h1⟩:=h1
 obtain ⟨N2, h2⟩:=h2
 obtain ⟨N3, h3⟩:=exF_pair (x:=x)
 obtain ⟨N4, h4⟩:=half_base x
 refine lim_le (C:=a * (x * x)) (M:=N1 + N2 + N3 + N4) fun n hn' => ?_
 have a1:=h1 n (by omega)
 have a2:=h2 n (by omega)
 have a3:=h3 n (by omega)
 have a4:=exF_pos (h4 n (by omega)).1
 have b1 : a * exF n (-x) * exF n x ≤ 1 * exF n x:=Rat.mul_le_mul_of_nonneg_right a1 (Rat.le_of_lt a4)
 have b2 : a * (1 - x * x * hn n) ≤ a * (exF n x * exF n (-x)):=Rat.mul_le_mul_of_nonneg_left a3 (by grind)
 grind
theorem UpE.up {x b c : Rat} (h : UpE x b) (hc : b ≤ c) : UpE x c:=by
 obtain ⟨N, h⟩:=h
 exact ⟨N, fun n hn' => Rat.le_trans (h n hn') hc⟩
theorem UpE.mono {x y b : Rat} (h : UpE y b) (hxy : x ≤ y) : UpE x b:=by
 obtain ⟨N, h⟩:=h
 obtain ⟨M, hM⟩:=half_base x
 refine ⟨N + M, fun n hn' => Rat.le_trans (exF_mono ?_ hxy) (h n (by omega))⟩
 have:=hM n (by omega)
 grind
theorem LoE.down {x a c : Rat} (h : LoE a x) (hc : c ≤ a) : LoE c x:=by
 obtain ⟨N, h⟩:=h
 obtain ⟨M, hM⟩:=half_base (-x)
 refine ⟨N + M, fun n hn' => ?_⟩
 have h2:=exF_pos (hM n (by omega)).1
 exact Rat.le_trans (Rat.mul_le_mul_of_nonneg_right hc (Rat.le_of_lt h2)) (h n (by omega))
theorem LoE.zero (x : Rat) : LoE 0 x:=⟨0, fun n _ => by grind⟩
theorem LoE.mono {x y a : Rat} (h : LoE a x) (hxy : x ≤ y) (ha : 0 ≤ a) : LoE a y:=by
 obtain ⟨N, h⟩:=h
 obtain ⟨M, hM⟩:=half_base (-y)
 refine ⟨N + M, fun n hn' => Rat.le_trans (Rat.mul_le_mul_of_nonneg_left (exF_mono ?_ (by grind)) ha) (h n (by omega))⟩
 have:=hM n (by omega)
 grind
theorem UpE.neg {x b : Rat} (h : UpE x b) : LoE b⁻¹ (-x):=by
 have hb:=h.pos
 obtain ⟨N, h⟩:=h
 refine ⟨N, fun n hn' => ?_⟩
 rw [Rat.neg_neg]
 have h1:=h n hn'
 have h2 : 0 < b⁻¹:=Rat.inv_pos.2 hb
 have:=Rat.mul_le_mul_of_nonneg_left h1 (Rat.le_of_lt h2)
 rw [Rat.inv_mul_cancel b (by grind)] at this
 exact this
theorem LoE.neg {x a : Rat} (h : LoE a x) (ha : 0 < a) : UpE (-x) a⁻¹:=by
 obtain ⟨N, h⟩:=h
 refine ⟨N, fun n hn' => ?_⟩
 have h1:=h n hn'
 have h2 : 0 < a⁻¹:=Rat.inv_pos.2 ha
 have:=Rat.mul_le_mul_of_nonneg_left h1 (Rat.le_of_lt h2)
 rw [← Rat.mul_assoc, Rat.inv_mul_cancel a (by grind)] at this
 grind
theorem UpE.add {x y b c : Rat} (h : UpE x b) (k : UpE y c) : UpE (x + y) (b * c):=by
 have hb:=h.pos
 have hc:=k.pos
 obtain ⟨N1, h⟩:=h
 obtain ⟨N2, k⟩:=k
 obtain ⟨M1, hM1⟩:=half_base x
 obtain ⟨M2, hM2⟩:=half_base y
 obtain ⟨M3, hM3⟩:=half_base (x + y)
 -- a bound of |x y|
 obtain ⟨P, hP1, hP2⟩:=nat_above (x * y)
 have hP0 : (0 : Rat) ≤ (P : Rat):=by exact_mod_cast Nat.zero_le P
 obtain ⟨M4, hM4⟩:=small_hn (2 * (P : Rat)) (show (0 : Rat) < 1 by grind)
 refine ⟨M3, fun n hn3 => ?_⟩
 obtain ⟨F, hF⟩:=nm9 (exF n (x + y))
 rw [hF]
 refine lim_le (C:=F * (2 * (P : Rat))) (M:=N1 + N2 + M1 + M2 + M4 + n) fun m hm => ?_
 have e0:=hn_pos m
 have a1:=h m (by omega)
 have a2:=k m (by omega)
 have a3:=hM1 m (by omega)
 have a4:=hM2 m (by omega)
 have a5:=hM3 m (by omega)
 have a6:=hM4 m (by omega)
 have b1:=exF_ups (x:=x + y) (n:=n) (k:=m) (fun j hj => (hM3 j (by omega)).1) (by omega)
 have b2:=exF_pos a3.1
 have b3:=exF_pos a4.1
 have b4:=exF_pos a5.1
 have b5:=exF_pos (hM3 n hn3).1
 rw [hF] at b1 b5
 -- (1 + (x + y) h) (1 - 2 P h h) is at most the product
 have q1 : (1 + (x + y) * hn m) * (1 + -(2 * (P : Rat) * hn m) * hn m) ≤ (1 + x * hn m) * (1 + y * hn m):=by
  have w1 : 0 ≤ hn m * hn m:=rsq_nn _
  have w2:=Rat.mul_le_mul_of_nonneg_right hP2 w1
  have w3 : (P : Rat) * (hn m * hn m) ≤ (1 + (x + y) * hn m) * (2 * ((P : Rat) * (hn m * hn m))):=by
   have w4 : 0 ≤ (P : Rat) * (hn m * hn m):=Rat.mul_nonneg hP0 w1
   have:=Rat.mul_le_mul_of_nonneg_right (show (1 : Rat) ≤ 2 * (1 + (x + y) * hn m) by grind) w4
   grind
  grind
 have q2:=sqn_mono (n:=m) (Rat.mul_nonneg (show 0 ≤ 1 + (x + y) * hn m by grind) (show 0 ≤ 1 + -(2 * (P : Rat) * hn m) * hn m by
  have w1 : hn m ≤ 1:=hn_le (Nat.zero_le m)
  have w2:=Rat.mul_le_mul_of_nonneg_right a6.2 (Rat.le_of_lt e0)
  grind)) q1
 rw [sqn_mul, sqn_mul] at q2
 have q3:=bern m (y := -(2 * (P : Rat) * hn m)) (by grind)
 have q4 : exF m (x + y) * (1 + -(2 * (P : Rat) * hn m)) ≤ exF m (x + y) * sqn m (1 + -(2 * (P : Rat) * hn m) * hn m):=Rat.mul_le_mul_of_nonneg_left q3 (Rat.le_of_lt b4)
 have q5 : exF m x * exF m y ≤ b * c:=rmul_le a1 a2 (Rat.le_of_lt b3) (Rat.le_of_lt hb)
 have q6 : F * (1 + -(2 * (P : Rat) * hn m)) ≤ exF m (x + y) * (1 + -(2 * (P : Rat) * hn m)):=Rat.mul_le_mul_of_nonneg_right b1 (by grind)
 have q7 : exF m (x + y) * sqn m (1 + -(2 * (P : Rat) * hn m) * hn m) ≤ exF m x * exF m y:=q2
 grind
theorem LoE.add {x y a c : Rat} (h : LoE a x) (k : LoE c y) (ha : 0 < a) (hc : 0 < c) : LoE (a * c) (x + y):=by
 have h1:=(h.neg ha).add (k.neg hc)
 have h2:=h1.neg
 rw [show -(-x + -y) = x + y by grind] at h2
 have e : (a⁻¹ * c⁻¹)⁻¹ = a * c:=by
  have : a ≠ 0:=by grind
  have : c ≠ 0:=by grind
  grind
 rwa [e] at h2
def tm : Nat → Rat → Rat
 | 0, _ => 1
 | k + 1, t => tm k t * t / ((k : Rat) + 1)
def esm : Nat → Rat → Rat
 | 0, _ => 0
 | k + 1, t => esm k t + tm k t
theorem nat_nn (k : Nat) : (0 : Rat) ≤ (k : Rat):=by exact_mod_cast Nat.zero_le k
theorem tm_mul (k : Nat) (t : Rat) : tm (k + 1) t * ((k : Rat) + 1) = tm k t * t:=by
 show tm k t * t / ((k : Rat) + 1) * ((k : Rat) + 1) = tm k t * t
 have:=nat_nn k
 exact Rat.div_mul_cancel (by grind)
theorem div_nn {a b : Rat} (h : 0 ≤ a) (h2 : 0 < b) : 0 ≤ a / b:=by
 rw [Rat.div_def]
 exact Rat.mul_nonneg h (Rat.le_of_lt (Rat.inv_pos.2 h2))
theorem tm_nn (k : Nat) {t : Rat} (h : 0 ≤ t) : 0 ≤ tm k t:=by
  induction k with
  | zero => show (0 : Rat) ≤ 1; grind
  | succ k ih =>
    have:=nat_nn k
    exact div_nn (Rat.mul_nonneg ih h) (by grind)
theorem esm_nn (k : Nat) {t : Rat} (h : 0 ≤ t) : 0 ≤ esm k t:=by
  induction k with
  | zero => show (0 : Rat) ≤ 0; grind
  | succ k ih =>
    have:=tm_nn k h
    show 0 ≤ esm k t + tm k t
    grind
theorem le_of_mul {a b c : Rat} (hc : 0 < c) (h : a * c ≤ b * c) : a ≤ b:=by
 refine Rat.not_lt.1 fun hlt => ?_
 have:=Rat.mul_lt_mul_of_pos_right hlt hc
 grind
theorem tm_diff (k : Nat) {s h : Rat} (hs : 0 ≤ s) (hh : 0 ≤ h) : h * tm k s ≤ tm (k + 1) (s + h) - tm (k + 1) s ∧ tm (k + 1) (s + h) - tm (k + 1) s ≤ h * tm k (s + h):=by
  induction k with
  | zero =>
    have e : ∀ x : Rat, tm 1 x = x:=fun x => by
      have:=tm_mul 0 x
      rw [show tm 0 x = 1 from rfl, show ((0 : Nat) : Rat) = 0 from rfl] at this
      grind
    rw [e, e, show tm 0 s = 1 from rfl, show tm 0 (s + h) = 1 from rfl]
    grind
  | succ k ih =>
    have h0:=nat_nn k
    have a1:=tm_mul (k + 1) (s + h)
    have a2:=tm_mul (k + 1) s
    have a3:=tm_mul k (s + h)
    have a4:=tm_mul k s
    have e : ((k + 1 : Nat) : Rat) = (k : Rat) + 1:=by push_cast; rfl
    rw [e] at a1 a2
    have b0:=tm_nn k hs
    have b1:=tm_nn (k + 1) hs
    have b2:=tm_nn k (show 0 ≤ s + h by grind)
    have b3:=tm_nn (k + 1) (show 0 ≤ s + h by grind)
    have m1 : tm (k + 1) s ≤ tm (k + 1) (s + h):=by
      have:=Rat.mul_nonneg hh b0
      grind
    have c1:=Rat.mul_le_mul_of_nonneg_right ih.1 (show 0 ≤ s + h by grind)
    have c2:=Rat.mul_le_mul_of_nonneg_right ih.2 (show 0 ≤ s + h by grind)
    have c3:=Rat.mul_nonneg (Rat.mul_nonneg hh b0) hh
    have c4:=Rat.mul_le_mul_of_nonneg_left m1 hh
    have a5 : h * (tm (k + 1) s * ((k : Rat) + 1)) = h * (tm k s * s):=by rw [a4]
    have a6 : h * (tm (k + 1) (s + h) * ((k : Rat) + 1)) = h * (tm k (s + h) * (s + h)):=by rw [a3]
    constructor
    · refine le_of_mul (show 0 < (k : Rat) + 1 + 1 by grind) ?_
      grind
    · refine le_of_mul (show 0 < (k : Rat) + 1 + 1 by grind) ?_
      grind
theorem tm_mono (k : Nat) {s h : Rat} (hs : 0 ≤ s) (hh : 0 ≤ h) : tm k s ≤ tm k (s + h):=by
  match k with
  | 0 => exact Rat.le_refl
  | k + 1 =>
    have:=(tm_diff k hs hh).1
    have:=Rat.mul_nonneg hh (tm_nn k hs)
    grind
theorem esm_mono (k : Nat) {s h : Rat} (hs : 0 ≤ s) (hh : 0 ≤ h) : esm k s ≤ esm k (s + h):=by
  induction k with
  | zero => exact Rat.le_refl
  | succ k ih =>
    have:=tm_mono k hs hh
    show esm k s + tm k s ≤ esm k (s + h) + tm k (s + h)
    grind
theorem esm_diff (k : Nat) {s h : Rat} (hs : 0 ≤ s) (hh : 0 ≤ h) : h * esm k s ≤ esm (k + 1) (s + h) - esm (k + 1) s ∧ esm (k + 1) (s + h) - esm (k + 1) s ≤ h * esm k (s + h):=by
  induction k with
  | zero =>
    show h * 0 ≤ 0 + 1 - (0 + 1) ∧ 0 + 1 - (0 + 1) ≤ h * 0
    grind
  | succ k ih =>
    have d:=tm_diff k hs hh
    show h * (esm k s + tm k s) ≤ esm (k + 1) (s + h) + tm (k + 1) (s + h) - (esm (k + 1) s + tm (k + 1) s) ∧ esm (k + 1) (s + h) + tm (k + 1) (s + h) - (esm (k + 1) s + tm (k + 1) s) ≤ h * (esm k (s + h) + tm k (s + h))
    grind
def rp (b : Rat) : Nat → Rat
 | 0 => 1
 | j + 1 => rp b j * b
theorem rp_add (b : Rat) (i j : Nat) : rp b (i + j) = rp b i * rp b j:=by
  induction j with
  | zero => show rp b i = rp b i * 1; grind
  | succ j ih =>
    show rp b (i + j) * b = rp b i * (rp b j * b)
    rw [ih]
    grind
theorem sqn_rp (n : Nat) (b : Rat) : sqn n b = rp b (2 ^ n):=by
 induction n with
 | zero => show b = 1 * b; grind
 | succ n ih => rw [sqn_succ, ih, Nat.pow_succ, Nat.mul_two, rp_add]
theorem rp_nn {b : Rat} (h : 0 ≤ b) (j : Nat) : 0 ≤ rp b j:=by
 induction j with
 | zero => show (0 : Rat) ≤ 1; grind
 | succ j ih => exact Rat.mul_nonneg ih h
theorem two_hn (n : Nat) : ((2 ^ n : Nat) : Rat) * hn n = 1:=by
  induction n with
  | zero => show ((1 : Nat) : Rat) * 1 = 1; rw [show ((1 : Nat) : Rat) = 1 from rfl]; grind
  | succ n ih =>
    rw [hn_succ, Nat.pow_succ]
    have e : ((2 ^ n * 2 : Nat) : Rat) = ((2 ^ n : Nat) : Rat) * 2:=by push_cast; rfl
    rw [e]
    grind
theorem esm_lo (K : Nat) {t : Rat} (ht : 0 ≤ t) : LoE (esm K t) t:=by
  obtain ⟨N, hN⟩:=small_hn t (show (0 : Rat) < 1 by grind)
  refine ⟨N, fun n hn' => ?_⟩
  have h0:=hn_pos n
  have h1:=(hN n hn').2
  obtain ⟨h, hh⟩:=nm9 (t * hn n)
  rw [hh] at h1
  have hh0 : 0 ≤ h:=by rw [← hh]; exact Rat.mul_nonneg ht (Rat.le_of_lt h0)
  have e1 : exF n (-t) = rp (1 - h) (2 ^ n):=by
    unfold exF
    rw [sqn_rp, ← hh]
    congr 1
    grind
  have e2 : ((2 ^ n : Nat) : Rat) * h = t:=by
    have:=two_hn n
    rw [← hh]
    grind
  -- step by step
  have key : ∀ j : Nat, esm K ((j : Rat) * h) * rp (1 - h) j ≤ 1:=fun j => by
    induction j with
    | zero =>
      have : ∀ K, esm K ((0 : Nat) * h) ≤ 1:=fun K => by
        have z : ((0 : Nat) : Rat) * h = 0:=by rw [show ((0 : Nat) : Rat) = 0 from rfl]; grind
        rw [z]
        match K with
        | 0 => show (0 : Rat) ≤ 1; grind
        | K + 1 =>
          have : ∀ k, tm (k + 1) 0 = 0:=fun k => by
            have h1:=tm_mul k 0
            have h2:=nat_nn k
            have h3 : tm (k + 1) 0 * ((k : Rat) + 1) = 0:=by rw [h1]; grind
            exact (Rat.mul_eq_zero.1 h3).resolve_right (by grind)
          have s1 : ∀ k, esm (k + 1) 0 = 1:=fun k => by
            induction k with
            | zero => show (0 : Rat) + 1 = 1; grind
            | succ k ih =>
              show esm (k + 1) 0 + tm (k + 1) 0 = 1
              rw [ih, this]
              grind
          rw [s1]
          exact Rat.le_refl
      show esm K ((0 : Nat) * h) * 1 ≤ 1
      have:=this K
      grind
    | succ j ih =>
      have hj : (0 : Rat) ≤ (j : Rat) * h:=Rat.mul_nonneg (nat_nn j) hh0
      have e : ((j + 1 : Nat) : Rat) * h = (j : Rat) * h + h:=by
        have : ((j + 1 : Nat) : Rat) = (j : Rat) + 1:=by push_cast; rfl
        rw [this]
        grind
      rw [e]
      show esm K ((j : Rat) * h + h) * (rp (1 - h) j * (1 - h)) ≤ 1
      have d : esm K ((j : Rat) * h + h) * (1 - h) ≤ esm K ((j : Rat) * h):=by
        match K with
        | 0 => show (0 : Rat) * (1 - h) ≤ 0; grind
        | K + 1 =>
          have d1:=(esm_diff K hj hh0).2
          have d2:=tm_nn K (show 0 ≤ (j : Rat) * h + h by grind)
          have d3:=Rat.mul_nonneg hh0 d2
          have d4 : esm (K + 1) ((j : Rat) * h + h) = esm K ((j : Rat) * h + h) + tm K ((j : Rat) * h + h):=rfl
          generalize (j : Rat) * h + h = s at *
          generalize esm (K + 1) ((j : Rat) * h) = E1 at *
          have d5 : h * esm (K + 1) s = h * esm K s + h * tm K s:=by rw [d4]; grind
          generalize esm (K + 1) s = E2 at *
          generalize esm K s = E3 at *
          generalize tm K s = T3 at *
          grind
      have p:=rp_nn (show 0 ≤ 1 - h by grind) j
      have:=Rat.mul_le_mul_of_nonneg_right d p
      grind
  have:=key (2 ^ n)
  rw [e2] at this
  rw [e1]
  exact this
theorem esm_up (K : Nat) {t : Rat} (ht : 0 ≤ t) (hK : 2 * t ≤ (K : Rat) + 1) : UpE t (esm (K + 1) t + 2 * tm (K + 1) t):=by
  refine ⟨0, fun n _ => ?_⟩
  have h0:=hn_pos n
  obtain ⟨h, hh⟩:=nm9 (t * hn n)
  have hh0 : 0 ≤ h:=by rw [← hh]; exact Rat.mul_nonneg ht (Rat.le_of_lt h0)
  have e1 : exF n t = rp (1 + h) (2 ^ n):=by
    unfold exF
    rw [sqn_rp, ← hh]
  have e2 : ((2 ^ n : Nat) : Rat) * h = t:=by
    have:=two_hn n
    rw [← hh]
    grind
  have key : ∀ j : Nat, (j : Rat) * h ≤ t → rp (1 + h) j ≤ esm (K + 1) ((j : Rat) * h) + 2 * tm (K + 1) ((j : Rat) * h):=fun j => by
    induction j with
    | zero =>
      intro _
      have z : ((0 : Nat) : Rat) * h = 0:=by rw [show ((0 : Nat) : Rat) = 0 from rfl]; grind
      rw [z]
      have a1:=tm_nn (K + 1) (show (0 : Rat) ≤ 0 by grind)
      have a2:=esm_nn K (show (0 : Rat) ≤ 0 by grind)
      have s1 : ∀ k, 1 ≤ esm (k + 1) 0:=fun k => by
        induction k with
        | zero => show (1 : Rat) ≤ 0 + 1; grind
        | succ k ih =>
          have:=tm_nn (k + 1) (show (0 : Rat) ≤ 0 by grind)
          show 1 ≤ esm (k + 1) 0 + tm (k + 1) 0
          grind
      have:=s1 K
      show (1 : Rat) ≤ _
      grind
    | succ j ih =>
      intro hj1
      have e : ((j + 1 : Nat) : Rat) * h = (j : Rat) * h + h:=by
        have : ((j + 1 : Nat) : Rat) = (j : Rat) + 1:=by push_cast; rfl
        rw [this]
        grind
      rw [e] at hj1 ⊢
      have hj : (0 : Rat) ≤ (j : Rat) * h:=Rat.mul_nonneg (nat_nn j) hh0
      have i1:=ih (by grind)
      obtain ⟨s, hs⟩:=nm9 ((j : Rat) * h)
      rw [hs] at i1 hj hj1 ⊢
      have d1:=(esm_diff K hj hh0).1
      have d2:=(tm_diff K hj hh0).1
      have d3 : esm (K + 1) s = esm K s + tm K s:=rfl
      have d4:=tm_mul K s
      have d5:=tm_nn K hj
      have d6:=tm_nn (K + 1) hj
      -- tm K s is at least twice the next term
      have d7 : 2 * tm (K + 1) s ≤ tm K s:=by
        refine le_of_mul (show 0 < (K : Rat) + 1 by have:=nat_nn K; grind) ?_
        have:=Rat.mul_le_mul_of_nonneg_left (show 2 * s ≤ (K : Rat) + 1 by grind) d5
        grind
      have d8:=Rat.mul_le_mul_of_nonneg_left d7 hh0
      show rp (1 + h) j * (1 + h) ≤ _
      have d9:=Rat.mul_le_mul_of_nonneg_right i1 (show 0 ≤ 1 + h by grind)
      have d10 : h * esm (K + 1) s = h * esm K s + h * tm K s:=by rw [d3]; grind
      clear ih hs e i1 d3 d4 d7
      generalize esm (K + 1) (s + h) = A1 at *
      generalize tm (K + 1) (s + h) = A2 at *
      generalize esm (K + 1) s = A3 at *
      generalize tm (K + 1) s = A4 at *
      generalize esm K s = A5 at *
      generalize tm K s = A6 at *
      generalize rp (1 + h) j = A7 at *
      have d11 : (A3 + 2 * A4) * (1 + h) = A3 + 2 * A4 + h * A3 + h * (2 * A4):=by grind
      rw [d11] at d9
      clear d11 e1 e2 hK ht
      grind
  have:=key (2 ^ n) (by rw [e2]; exact Rat.le_refl)
  rw [e2] at this
  rw [e1]
  exact this
def sgk : Nat → Rat
 | 0 => 1
 | k + 1 => -sgk k
theorem sgk_or (k : Nat) : sgk k = 1 ∨ sgk k = -1:=by
  induction k with
  | zero => exact Or.inl rfl
  | succ k ih =>
    rcases ih with h | h
    · exact Or.inr (by show -sgk k = -1; rw [h])
    · exact Or.inl (by show -sgk k = 1; rw [h]; grind)
theorem tm_neg (k : Nat) (t : Rat) : tm k (-t) = sgk k * tm k t:=by
  induction k with
  | zero => show (1 : Rat) = 1 * 1; grind
  | succ k ih =>
    have h0:=nat_nn k
    have h1:=tm_mul k (-t)
    have h2:=tm_mul k t
    have h3 : (tm (k + 1) (-t) - sgk (k + 1) * tm (k + 1) t) * ((k : Rat) + 1) = 0:=by
      have e : sgk (k + 1) = -sgk k:=rfl
      rw [ih] at h1
      rw [e]
      have h4 : sgk k * (tm (k + 1) t * ((k : Rat) + 1)) = sgk k * (tm k t * t):=by rw [h2]
      grind
    have:=(Rat.mul_eq_zero.1 h3).resolve_right (by grind)
    grind
def tb : Nat → Rat → Rat
 | 0, _ => 0
 | k + 1, t => tm k t
theorem tm_second (k : Nat) {s h : Rat} (hs : 0 ≤ s) (hh : 0 ≤ h) : 0 ≤ tm (k + 1) (s + h) - tm (k + 1) s - h * tm k s ∧ tm (k + 1) (s + h) - tm (k + 1) s - h * tm k s ≤ h * h * tb k (s + h):=by
  have d:=tm_diff k hs hh
  refine ⟨by grind, ?_⟩
  match k with
  | 0 =>
    have e1 : tm 0 s = 1:=rfl
    have e2 : tm 0 (s + h) = 1:=rfl
    have e3 : tb 0 (s + h) = 0:=rfl
    rw [e2] at d
    rw [e1, e3]
    grind
  | k + 1 =>
    have d2:=Rat.mul_le_mul_of_nonneg_left (tm_diff k hs hh).2 hh
    have e3 : tb (k + 1) (s + h) = tm k (s + h):=rfl
    rw [e3]
    grind
def esb : Nat → Rat → Rat
 | 0, _ => 0
 | k + 1, t => esb k t + tb k t
theorem esb_succ (k : Nat) (t : Rat) : esb (k + 1) t = esm k t:=by
  induction k with
  | zero => show (0 : Rat) + 0 = 0; grind
  | succ k ih =>
    show esb (k + 1) t + tm k t = esm k t + tm k t
    rw [ih]
theorem esb_le (k : Nat) {t : Rat} (h : 0 ≤ t) : esb k t ≤ esm k t:=by
  match k with
  | 0 => exact Rat.le_refl
  | k + 1 =>
    rw [esb_succ]
    have:=tm_nn k h
    show esm k t ≤ esm k t + tm k t
    grind
theorem esm_second (K : Nat) {s h : Rat} (hs : 0 ≤ s) (hh : 0 ≤ h) : -(h * h * esb K (s + h)) ≤ esm (K + 1) (-(s + h)) - esm (K + 1) (-s) + h * esm K (-s) ∧ esm (K + 1) (-(s + h)) - esm (K + 1) (-s) + h * esm K (-s) ≤ h * h * esb K (s + h):=by
  induction K with
  | zero =>
    show -(h * h * 0) ≤ 0 + 1 - (0 + 1) + h * 0 ∧ 0 + 1 - (0 + 1) + h * 0 ≤ h * h * 0
    grind
  | succ K ih =>
    obtain ⟨a1, a2⟩:=tm_second K hs hh
    have e1 : esm (K + 1 + 1) (-(s + h)) = esm (K + 1) (-(s + h)) + tm (K + 1) (-(s + h)):=rfl
    have e2 : esm (K + 1 + 1) (-s) = esm (K + 1) (-s) + tm (K + 1) (-s):=rfl
    have e3 : h * esm (K + 1) (-s) = h * esm K (-s) + h * tm K (-s):=by
      show h * (esm K (-s) + tm K (-s)) = _
      grind
    have e4 : h * h * esb (K + 1) (s + h) = h * h * esb K (s + h) + h * h * tb K (s + h):=by
      show h * h * (esb K (s + h) + tb K (s + h)) = _
      grind
    have e5 : sgk (K + 1) = -sgk K:=rfl
    have t1:=tm_neg (K + 1) (s + h)
    have t2:=tm_neg (K + 1) s
    have t3:=tm_neg K s
    rw [e1, e2, e3, e4]
    rcases sgk_or K with g | g
    · rw [e5, g] at t1 t2
      rw [g] at t3
      rw [t1, t2, t3]
      grind
    · rw [e5, g] at t1 t2
      rw [g] at t3
      rw [t1, t2, t3]
      grind
theorem esm_at0 (k : Nat) : esm (k + 1) (-0) = 1:=by
  have : ∀ k, tm (k + 1) (-0) = 0:=fun k => by
    have h1:=tm_mul k (-0)
    have h2:=nat_nn k
    have h3 : tm (k + 1) (-0) * ((k : Rat) + 1) = 0:=by rw [h1]; grind
    exact (Rat.mul_eq_zero.1 h3).resolve_right (by grind)
  induction k with
  | zero => show (0 : Rat) + 1 = 1; grind
  | succ k ih =>
    show esm (k + 1) (-0) + tm (k + 1) (-0) = 1
    rw [ih, this]
    grind
theorem neg_step (K : Nat) {t h : Rat} (hh : 0 ≤ h) (h1 : h ≤ 1) (j : Nat) (hj : (j : Rat) * h ≤ t) :
    rp (1 - h) j ≤ esm (K + 1) (-((j : Rat) * h)) + tm (K + 1) ((j : Rat) * h) + esm K t * (h * h) * (j : Rat) ∧
    esm (K + 1) (-((j : Rat) * h)) - tm (K + 1) ((j : Rat) * h) - esm K t * (h * h) * (j : Rat) ≤ rp (1 - h) j:=by
  induction j with
  | zero =>
    have z : ((0 : Nat) : Rat) * h = 0:=by rw [show ((0 : Nat) : Rat) = 0 from rfl]; grind
    have z2 : ((0 : Nat) : Rat) = 0:=rfl
    rw [z, esm_at0, z2]
    have:=tm_nn (K + 1) (show (0 : Rat) ≤ 0 by grind)
    show (1 : Rat) ≤ _ ∧ _ ≤ (1 : Rat)
    grind
  | succ j ih =>
    have e0 : ((j + 1 : Nat) : Rat) = (j : Rat) + 1:=by push_cast; rfl
    have e : ((j + 1 : Nat) : Rat) * h = (j : Rat) * h + h:=by rw [e0]; grind
    rw [e] at hj
    rw [e, e0]
    have hj0 : (0 : Rat) ≤ (j : Rat) * h:=Rat.mul_nonneg (nat_nn j) hh
    obtain ⟨i1, i2⟩:=ih (by grind)
    have hjn:=nat_nn j
    obtain ⟨s, hs⟩:=nm9 ((j : Rat) * h)
    rw [hs] at i1 i2 hj hj0 ⊢
    obtain ⟨d1, d2⟩:=esm_second K hj0 hh
    have d3:=(tm_diff K hj0 hh).1
    have d4 : h * esm (K + 1) (-s) = h * esm K (-s) + h * tm K (-s):=by
      show h * (esm K (-s) + tm K (-s)) = _
      grind
    have d5:=tm_neg K s
    have d6:=Rat.mul_nonneg hh (tm_nn K hj0)
    have d7:=Rat.mul_nonneg hh (tm_nn (K + 1) hj0)
    have d8 : h * h * esb K (s + h) ≤ h * h * esm K t:=by
      refine Rat.mul_le_mul_of_nonneg_left ?_ (rsq_nn h)
      refine Rat.le_trans (esb_le K (by grind)) ?_
      have:=esm_mono K (s:=s + h) (h:=t - (s + h)) (by grind) (by grind)
      rwa [show s + h + (t - (s + h)) = t by grind] at this
    have d9 : 0 ≤ esm K t * (h * h) * (j : Rat):=Rat.mul_nonneg (Rat.mul_nonneg (esm_nn K (by grind)) (rsq_nn h)) hjn
    have d10:=Rat.mul_nonneg d9 hh
    have c1:=Rat.mul_le_mul_of_nonneg_right i1 (show 0 ≤ 1 - h by grind)
    have c2:=Rat.mul_le_mul_of_nonneg_right i2 (show 0 ≤ 1 - h by grind)
    show rp (1 - h) j * (1 - h) ≤ _ ∧ _ ≤ rp (1 - h) j * (1 - h)
    have d11 : h * tm K (-s) = h * tm K s ∨ h * tm K (-s) = -(h * tm K s):=by
      rcases sgk_or K with g | g
      · rw [g] at d5; rw [d5]; left; grind
      · rw [g] at d5; rw [d5]; right; grind
    clear d5 ih e hs e0 i1 i2
    generalize esm (K + 1) (-(s + h)) = A1 at *
    generalize tm (K + 1) (s + h) = A2 at *
    generalize esm (K + 1) (-s) = A3 at *
    generalize tm (K + 1) s = A4 at *
    generalize esm K (-s) = A5 at *
    generalize h * tm K (-s) = A6 at *
    generalize h * tm K s = A7 at *
    generalize rp (1 - h) j * (1 - h) = A8 at *
    generalize esm K t = A9 at *
    generalize esb K (s + h) = B1 at *
    constructor
    · rcases d11 with g | g <;> grind
    · rcases d11 with g | g <;> grind
theorem exF_rp (n : Nat) (t : Rat) : exF n (-t) = rp (1 - t * hn n) (2 ^ n):=by
 unfold exF
 rw [sqn_rp]
 congr 1
 grind
theorem neg_both (K : Nat) {t : Rat} (ht : 0 ≤ t) : ∃ N, ∀ n, N ≤ n → exF n (-t) ≤ esm (K + 1) (-t) + tm (K + 1) t + esm K t * (t * t) * hn n ∧ esm (K + 1) (-t) - tm (K + 1) t - esm K t * (t * t) * hn n ≤ exF n (-t):=by
 obtain ⟨N, hN⟩:=small_hn t (show (0 : Rat) < 1 by grind)
 refine ⟨N, fun n hn' => ?_⟩
 have h0:=hn_pos n
 have h1:=(hN n hn').2
 have e2 : ((2 ^ n : Nat) : Rat) * (t * hn n) = t:=by
  have:=two_hn n
  grind
 have key:=neg_step K (t:=t) (h:=t * hn n) (Rat.mul_nonneg ht (Rat.le_of_lt h0)) h1 (2 ^ n) (by rw [e2]; exact Rat.le_refl)
 rw [e2] at key
 have e3 : esm K t * (t * hn n * (t * hn n)) * ((2 ^ n : Nat) : Rat) = esm K t * (t * t) * hn n:=by
  have : esm K t * (t * hn n * (t * hn n)) * ((2 ^ n : Nat) : Rat) = esm K t * (((2 ^ n : Nat) : Rat) * (t * hn n)) * (t * hn n):=by grind
  rw [this, e2]
  grind
 rw [e3] at key
 rw [exF_rp]
 exact key
theorem neg_up (K : Nat) {t : Rat} (ht : 0 ≤ t) : UpE (-t) (esm (K + 1) (-t) + tm (K + 1) t):=by
 obtain ⟨N, h⟩:=neg_both K ht
 exact upE_lim (C:=esm K t * (t * t)) (M:=N) fun n hn' => (h n hn').1
theorem upE_some (x : Rat) : ∃ b, UpE x b:=by
 obtain ⟨M, h1, _⟩:=nat_above (2 * x)
 by_cases h : 0 ≤ x
 ·exact ⟨_, esm_up M h (by grind)⟩
 ·refine ⟨1, UpE.mono (y:=0) ⟨0, fun n _ => ?_⟩ (by grind)⟩
  unfold exF
  rw [show (1 : Rat) + 0 * hn n = 1 by grind, sqn_one]
  exact Rat.le_refl
theorem pair_le {x : Rat} : ∃ N, ∀ n, N ≤ n → exF n x * exF n (-x) ≤ 1:=by
 obtain ⟨N, hN⟩:=half_base x
 refine ⟨N, fun n hn' => ?_⟩
 have h:=hN n hn'
 have h0:=hn_pos n
 unfold exF
 rw [← sqn_mul]
 have e : (1 + x * hn n) * (1 + -x * hn n) = 1 - (x * hn n) * (x * hn n):=by grind
 rw [e]
 have s:=rsq_nn (x * hn n)
 have s2 : (x * hn n) * (x * hn n) ≤ 1:=by
  by_cases p : 0 ≤ x * hn n
  ·have:=rmul_le h.2 h.2 p (by grind)
   grind
  ·have:=rmul_le (show -(x * hn n) ≤ 1 / 2 by grind) (show -(x * hn n) ≤ 1 / 2 by grind) (by grind) (by grind)
   grind
 have:=sqn_mono (n:=n) (show 0 ≤ 1 - (x * hn n) * (x * hn n) by grind) (show 1 - (x * hn n) * (x * hn n) ≤ 1 by grind)
 rwa [sqn_one] at this
theorem neg_lo (K : Nat) {t : Rat} (ht : 0 ≤ t) : LoE (esm (K + 1) (-t) - tm (K + 1) t) (-t):=by
 obtain ⟨W, hW⟩:=nm9 (esm (K + 1) (-t) - tm (K + 1) t)
 rw [hW]
 by_cases hw : W ≤ 0
 ·exact (LoE.zero _).down hw
 obtain ⟨N1, h1⟩:=neg_both K ht
 rw [hW] at h1
 obtain ⟨N2, h2⟩:=pair_le (x:=t)
 obtain ⟨b, N3, h3⟩:=upE_some t
 obtain ⟨N4, h4⟩:=half_base t
 obtain ⟨C, hC⟩:=nm9 (esm K t * (t * t))
 rw [hC] at h1
 have hC0 : 0 ≤ C:=by rw [← hC]; exact Rat.mul_nonneg (esm_nn K ht) (rsq_nn t)
 refine ⟨N4, fun n hn' => ?_⟩
 rw [Rat.neg_neg]
 refine lim_le (C:=C * b) (M:=N1 + N2 + N3 + n) fun m hm => ?_
 have e0:=hn_pos m
 have a1:=(h1 m (by omega)).2
 have a2:=h2 m (by omega)
 have a3:=h3 m (by omega)
 have a4:=exF_pos (h4 m (by omega)).1
 have a5:=exF_ups (x:=t) (n:=n) (k:=m) (fun j hj => (h4 j (by omega)).1) (by omega)
 have b1:=Rat.mul_le_mul_of_nonneg_left a5 (show 0 ≤ W by grind)
 have b2:=Rat.mul_le_mul_of_nonneg_right a1 (Rat.le_of_lt a4)
 have b3:=Rat.mul_le_mul_of_nonneg_left a3 (Rat.mul_nonneg hC0 (Rat.le_of_lt e0))
 grind
def rab (x : Rat) : Rat:=if 0 ≤ x then x else -x
theorem rab_nn (x : Rat) : 0 ≤ rab x:=by unfold rab; split <;> grind
theorem exp_up (K : Nat) {x : Rat} (h : 2 * rab x ≤ (K : Rat) + 1) : UpE x (esm (K + 1) x + 2 * tm (K + 1) (rab x)):=by
 by_cases hx : 0 ≤ x
 ·have e : rab x = x:=by unfold rab; rw [if_pos hx]
  rw [e] at h ⊢
  exact esm_up K hx h
 ·have e : rab x = -x:=by unfold rab; rw [if_neg hx]
  have h1:=neg_up K (t := -x) (by grind)
  rw [Rat.neg_neg] at h1
  rw [e]
  have:=tm_nn (K + 1) (t := -x) (by grind)
  exact h1.up (by grind)
theorem exp_lo (K : Nat) (x : Rat) : LoE (esm (K + 1) x - tm (K + 1) (rab x)) x:=by
 by_cases hx : 0 ≤ x
 ·have e : rab x = x:=by unfold rab; rw [if_pos hx]
  rw [e]
  have:=tm_nn (K + 1) hx
  exact (esm_lo (K + 1) hx).down (by grind)
 ·have e : rab x = -x:=by unfold rab; rw [if_neg hx]
  have h1:=neg_lo K (t := -x) (by grind)
  rw [Rat.neg_neg] at h1
  rw [e]
  exact h1
theorem exp_line (x : Rat) : LoE (1 + x) x:=by
 by_cases hx : -1 ≤ x
 ·obtain ⟨N, h⟩:=pair_le (x:=x)
  obtain ⟨M, hM⟩:=half_base (-x)
  refine ⟨N + M, fun n hn' => ?_⟩
  have h1:=h n (by omega)
  have h2:=exF_pos (hM n (by omega)).1
  have h3:=bern n hx
  have h4:=Rat.mul_le_mul_of_nonneg_right h3 (Rat.le_of_lt h2)
  have e : sqn n (1 + x * hn n) = exF n x:=rfl
  rw [e] at h4
  exact Rat.le_trans h4 h1
 ·exact (LoE.zero x).down (by grind)
theorem exp_0 : LoE 1 0 ∧ UpE 0 1:=by
 refine ⟨?_, ⟨0, fun n _ => ?_⟩⟩
 ·have:=exp_line 0
  rwa [show (1 : Rat) + 0 = 1 by grind] at this
 ·unfold exF
  rw [show (1 : Rat) + 0 * hn n = 1 by grind, sqn_one]
  exact Rat.le_refl
def art : Nat → Rat → Rat
 | 0, _ => 0
 | n + 1, z => art n z + rp z (2 * n + 1) / (((2 * n : Nat) : Rat) + 1)
def gs : Nat → Rat → Rat
 | 0, _ => 0
 | n + 1, z => gs n z + rp z (2 * n)
def hr (q : Rat) : Nat → Nat → Rat
 | 0, _ => 0
 | n + 1, k => 1 / (2 * (k : Rat) + 1) + q * hr q n (k + 1)
theorem odd_inv (k : Nat) : 0 ≤ 1 / (2 * (k : Rat) + 1) ∧ 1 / (2 * (k : Rat) + 1) ≤ 1 ∧ 1 / (2 * (k : Rat) + 1) * (2 * (k : Rat) + 1) = 1:=by
 have h:=nat_nn k
 have hp : (0 : Rat) < 2 * (k : Rat) + 1:=by grind
 have e : 1 / (2 * (k : Rat) + 1) * (2 * (k : Rat) + 1) = 1:=Rat.div_mul_cancel (Rat.ne_of_gt hp)
 refine ⟨le_of_mul hp ?_, le_of_mul hp ?_, e⟩
 ·rw [e]; grind
 ·rw [e]; grind
theorem hr_nn {q : Rat} (h : 0 ≤ q) : ∀ n k, 0 ≤ hr q n k
  | 0, _ => Rat.le_refl
  | n + 1, k => by
    show 0 ≤ 1 / (2 * (k : Rat) + 1) + q * hr q n (k + 1)
    have h1:=(odd_inv k).1
    have h2:=Rat.mul_nonneg h (hr_nn h n (k + 1))
    grind
theorem hr_le {q : Rat} (h : 0 ≤ q) (h1 : q ≤ 1 / 16) : ∀ n k, hr q n k ≤ 2
  | 0, _ => by show (0 : Rat) ≤ 2; decide
  | n + 1, k => by
    show 1 / (2 * (k : Rat) + 1) + q * hr q n (k + 1) ≤ 2
    have h2:=(odd_inv k).2.1
    have h3:=rmul_le h1 (hr_le h h1 n (k + 1)) (hr_nn h n (k + 1)) (by grind)
    grind
theorem ln_arg2 {m : Rat} (h1 : 7 / 10 ≤ m) (h2 : m ≤ 8 / 5) : -(1 / 5) ≤ (m - 1) / (m + 1) ∧ (m - 1) / (m + 1) ≤ 6 / 25 ∧ (1 + (m - 1) / (m + 1)) / (1 - (m - 1) / (m + 1)) = m:=by
 have hp : 0 < m + 1:=by grind
 have e:=Rat.div_mul_cancel (a:=m - 1) (Rat.ne_of_gt hp)
 generalize (m - 1) / (m + 1) = z at *
 have b1 : -(1 / 5) ≤ z:=le_of_mul hp (by rw [e]; grind)
 have b2 : z ≤ 6 / 25:=le_of_mul hp (by rw [e]; grind)
 refine ⟨b1, b2, ?_⟩
 have hq : (0 : Rat) < 1 - z:=by grind
 have e2:=Rat.div_mul_cancel (a:=1 + z) (Rat.ne_of_gt hq)
 generalize (1 + z) / (1 - z) = w at *
 have e3 : w * (1 - z) = m * (1 - z):=by grind
 exact Rat.le_antisymm (le_of_mul hq (by rw [e3]; exact Rat.le_refl)) (le_of_mul hq (by rw [e3]; exact Rat.le_refl))
theorem ln_argz {m u r z : Rat} (hm1 : 7 / 10 ≤ m) (hm2 : m ≤ 8 / 5) (hu : 0 ≤ u) (r1 : r * (m + 1) ≤ 1) (r2 : 1 ≤ (r + u) * (m + 1)) (z1 : z ≤ (m - 1) * r) (z2 : (m - 1) * r ≤ z + u) :
  (m - 1) / (m + 1) ≤ z + 2 * u ∧ z ≤ (m - 1) / (m + 1) + 2 * u:=by
 have hp : 0 < m + 1:=by grind
 have e:=Rat.div_mul_cancel (a:=m - 1) (Rat.ne_of_gt hp)
 generalize (m - 1) / (m + 1) = y at *
 -- y - (m - 1) r = (m - 1) (1 / (m + 1) - r)
 have f : (y - (m - 1) * r) * (m + 1) = (m - 1) * (1 - r * (m + 1)):=by grind
 have c0 : 0 ≤ 1 - r * (m + 1):=by grind
 have c1 : 1 - r * (m + 1) ≤ u * (m + 1):=by grind
 have c2 : 0 ≤ u * (m + 1):=Rat.mul_nonneg hu (Rat.le_of_lt hp)
 have g1 : (m - 1) * (1 - r * (m + 1)) ≤ u * (m + 1):=by
  have:=Rat.mul_le_mul_of_nonneg_right (show m - 1 ≤ 1 by grind) c0
  grind
 have g2 : -(u * (m + 1)) ≤ (m - 1) * (1 - r * (m + 1)):=by
  have:=Rat.mul_le_mul_of_nonneg_right (show -1 ≤ m - 1 by grind) c0
  grind
 rw [← f] at g1 g2
 have h1 : y - (m - 1) * r ≤ u:=le_of_mul hp g1
 have h2 : -u ≤ y - (m - 1) * r:=le_of_mul hp (by rw [Rat.neg_mul]; exact g2)
 generalize (m - 1) * r = x at *
 clear f g1 g2 c0 c1 c2 r1 r2 e
 constructor <;> grind
theorem ln_argz4 {m m' u r z : Rat} (hm1 : 3 / 4 ≤ m) (hm2 : m ≤ 3 / 2) (hu : 0 ≤ u) (hu1 : u ≤ 1 / 1000) (d1 : m ≤ m' + u) (d2 : m' ≤ m + u) (r1 : r * (m' + 1) ≤ 1) (r2 : 1 ≤ (r + u) * (m' + 1)) (z1 : z ≤ (m' - 1) * r) (z2 : (m' - 1) * r ≤ z + u) : -(121 / 500) ≤ z ∧ z ≤ 121 / 500:=by
 have e1 : 7 / 10 ≤ m':=by grind
 have e2 : m' ≤ 8 / 5:=by grind
 obtain ⟨a1, a2, a3⟩:=ln_arg2 e1 e2
 obtain ⟨b1, b2⟩:=ln_argz e1 e2 hu r1 r2 z1 z2
 constructor <;> grind
def SpC (a b : Int) (v : Nat) (q : Rat) : Prop:=dq a (-(v : Int)) ≤ q ∧ q ≤ dq b (-(v : Int))
theorem dq_addI (a b e : Int) : dq (a + b) e = dq a e + dq b e:=by
 rw [dq_scale, dq_scale a, dq_scale b, Rat.intCast_add, Rat.add_mul]
theorem SpC.of (n : Int) (v : Nat) : SpC (n * 2 ^ v) (n * 2 ^ v) v (n : Rat):=by
 have e : dq (n * 2 ^ v) (-(v : Int)) = (n : Rat):=by
  rw [← dq_int]
  refine dq_eq (F := -(v : Int)) ?_ (by omega) (by omega)
  rw [show (-(v : Int) - -(v : Int)).toNat = 0 by omega, show (0 - -(v : Int)).toNat = v by omega]
  simp
 unfold SpC
 rw [e]
 exact ⟨Rat.le_refl, Rat.le_refl⟩
theorem SpC.at (q : Rat) (v : Nat) : SpC (cutQ q (v : Int)) (-(cutQ (-q) (v : Int))) v q:=by
 refine ⟨cut_lo q _, ?_⟩
 have:=cut_lo (-q) (v : Int)
 rw [dq_neg]
 grind
theorem fdiv_le {x n : Int} (hn : 0 < n) (e : Int) : dq (x / n) e * (n : Rat) ≤ dq x e:=by
 have h:=Int.ediv_mul_le x (show n ≠ 0 by omega)
 have:=(dq_le_iff (x / n * n) x e).2 h
 rw [dq_scale, Rat.intCast_mul] at this
 rw [dq_scale (x / n)]
 grind
theorem le_cdiv {x n : Int} (hn : 0 < n) (e : Int) : dq x e ≤ dq (cdv x n) e * (n : Rat):=by
 have h:=le_cdv (x:=x) hn
 have:=(dq_le_iff x (cdv x n * n) e).2 h
 rw [dq_scale (cdv x n * n), Rat.intCast_mul] at this
 rw [dq_scale (cdv x n)]
 grind
theorem SpC.over {a b n : Int} {v : Nat} {q : Rat} (h : SpC a b v q) (hn : 0 < n) : SpC (a / n) (cdv b n) v (q / (n : Rat)):=by
 obtain ⟨h1, h2⟩:=h
 have hp : (0 : Rat) < (n : Rat):=by exact_mod_cast hn
 have e : q / (n : Rat) * (n : Rat) = q:=Rat.div_mul_cancel (by grind)
 refine ⟨le_of_mul hp ?_, le_of_mul hp ?_⟩
 ·rw [e]; exact Rat.le_trans (fdiv_le hn _) h1
 ·rw [e]; exact Rat.le_trans h2 (le_cdiv hn _)
theorem two_cast (v : Nat) : (((2 : Int) ^ v : Int) : Rat) * dq 1 (-(v : Int)) = 1:=by
 rw [← dq_scale]
 have:=(SpC.of 1 v).1
 have h2:=(SpC.of 1 v).2
 rw [Int.one_mul] at this h2
 have e : ((1 : Int) : Rat) = 1:=rfl
 rw [e] at this h2
 grind
def RSp (a b : Int) (v : Nat) (x : Rat) : Prop:=LoE (dq a (-(v : Int))) x ∧ UpE x (dq b (-(v : Int)))
def WiI (M a b : Int) : Prop:=(-M ≤ a ∧ a ≤ M) ∧ (-M ≤ b ∧ b ≤ M)
structure LnI (v n : Nat) (z : Rat) (a b p q M : Int) : Prop where
 tm : SpC a b v (rp z (2 * n + 1))
 sm : SpC p q v (art n z)
 wi : WiI M a b
 m0 : 0 ≤ M
theorem LnI.first {v : Nat} {z : Rat} {a b M : Int} (h : SpC a b v z) (w : WiI M a b) (hM : 0 ≤ M) : LnI v 0 z a b (0 * 2 ^ v) (0 * 2 ^ v) M:=by
 refine ⟨?_, ?_, w, hM⟩
 ·have e : rp z (2 * 0 + 1) = z:=by show 1 * z = z; exact Rat.one_mul z
  rw [e]; exact h
 ·have:=SpC.of 0 v
  exact this
def tnP (n sg : Int) (k : Nat) : Int × Int:=if k = 0 then (n, n * n + sg) else (sg * 2 * (k : Int), (2 * (k : Int) + 1) * (n * n + sg))
def stP (p : Nat → Int × Int) (k : Nat) (t : Int) : Int:=t * (p k).1 / (p k).2
def smP (p : Nat → Int × Int) : Nat → Nat → Int → Int → Option Int
 | 0, _, _, _ => none
 | f + 1, k, t, s => if stP p k t = 0 then some s else smP p f (k + 1) (stP p k t) (s + stP p k t)
def GdP (p : Nat → Int × Int) : Prop:=∀ k, k ≤ 1000 → ((p k).1.natAbs : Int) ≤ (p k).2 ∧ 0 < (p k).2 ∧ (p k).2 ≤ 4611686018427387904
theorem st_abs {p : Nat → Int × Int} {k : Nat} {t : Int} {j : Nat} (h : GdP p) (hk : k ≤ 1000) (ht : AbP t j) : AbP (stP p k t) j:=by
 obtain ⟨h1, h2, h3⟩:=h k hk
 unfold AbP stP at *
 generalize (p k).1 = a at *
 generalize (p k).2 = b at *
 have x0 : ((t * a).natAbs : Int) ≤ (t.natAbs : Int) * b:=by
  rw [Int.natAbs_mul, Int.natCast_mul]
  exact Int.mul_le_mul_of_nonneg_left h1 (Int.natCast_nonneg _)
 have x1 : t * a / b ≤ (t.natAbs : Int):=Int.ediv_le_of_le_mul h2 (by omega)
 have x2 : -(t.natAbs : Int) ≤ t * a / b:=by
  rw [Int.le_ediv_iff_mul_le h2, Int.neg_mul]
  omega
 omega
def SpI (p : Nat → Int × Int) (v f k : Nat) (t s S : Int) : Prop:=AbP t v ∧ AbP s (v + k) ∧ f + k = 600 ∧ smP p f k t s = some S
theorem SpI.step {p : Nat → Int × Int} {v f k : Nat} {t s S : Int} (hg : GdP p) (h : SpI p v f k t s S) : ∃ g, f = g + 1 ∧ k ≤ 600 ∧ AbP (stP p k t) v ∧
    (stP p k t = 0 → S = s) ∧ (stP p k t ≠ 0 → SpI p v g (k + 1) (stP p k t) (s + stP p k t) S):=by
  obtain ⟨h1, h2, h3, h4⟩:=h
  match f with
  | 0 => cases h4
  | g + 1 =>
    have h5:=st_abs hg (show k ≤ 1000 by omega) h1
    refine ⟨g, rfl, by omega, h5, fun h0 => ?_, fun h0 => ⟨h5, h2.add (h5.up (by omega)), by omega, ?_⟩⟩
    · rw [smP, if_pos h0] at h4
      exact (Option.some.inj h4).symm
    · rw [smP, if_neg h0] at h4
      exact h4
theorem smP_abs {p : Nat → Int × Int} {v : Nat} (hg : GdP p) : ∀ (f k : Nat) (t s S : Int), SpI p v f k t s S → AbP S (v + 600)
  | f, k, t, s, S, h => by
    obtain ⟨g, rfl, hk, _, h1, h2⟩:=h.step hg
    by_cases h0 : stP p k t = 0
    · rw [h1 h0]
      exact h.2.1.up (by omega)
    · exact smP_abs hg g _ _ _ _ (h2 h0)
theorem sp_first {p : Nat → Int × Int} {v : Nat} {S : Int} (h : smP p 600 0 (2 ^ v) 0 = some S) : SpI p v 600 0 (2 ^ v) 0 S:=⟨(tm_one v).abs.1, AbP.zero _, rfl, h⟩
theorem tnP_good {n sg : Int} (h : (n, sg) = (5, 1) ∨ (n, sg) = (239, 1) ∨ (n, sg) = (26, -1) ∨ (n, sg) = (4801, -1) ∨ (n, sg) = (8749, -1)) : GdP (tnP n sg):=fun k hk => by
 unfold tnP
 rcases h with h | h | h | h | h <;> obtain ⟨rfl, rfl⟩:=Prod.mk.inj h <;> split <;> simp only <;> omega
def loC (T : Int) : Int:=(T - 262144) / 4294967296
def hiC (T : Int) : Int:=cdv (T + 262144) 4294967296
theorem cut_st (p : Nat → Int × Int) (k : Nat) (t : Int) (h : 0 < (p k).2) : cutQ (Rat.divInt (t * (Rat.divInt (p k).1 (p k).2).num) (((1 : Nat) : Int) * ((Rat.divInt (p k).1 (p k).2).den : Int))) 0 = stP p k t:=by
 obtain ⟨d, hd⟩ : ∃ d : Nat, (p k).2 = (d : Int):=⟨(p k).2.toNat, by omega⟩
 have e : Rat.divInt (t * (Rat.divInt (p k).1 (p k).2).num) (((1 : Nat) : Int) * ((Rat.divInt (p k).1 (p k).2).den : Int)) = Rat.divInt (t * (p k).1) (d : Int):=by
  rw [← Rat.divInt_mul_divInt, Rat.num_divInt_den, hd, ← Int.mul_one (d : Int), Int.mul_comm (d : Int), ← Rat.divInt_mul_divInt, Int.one_mul]
  rfl
 unfold stP
 rw [e, cut_eq _ d (by omega) 0, hd]
 simp

theorem mk_fits9 {m e : Int} (h : zl m ≤ 700) (h1 : -40000 ≤ e) (h2 : e ≤ 40000) : mkR m e = 0:=by
 unfold mkR
 rw [if_neg (by omega)]
 by_cases h0 : m = 0
 ·rw [if_pos h0]
 ·rw [if_neg h0]
  have ht:=tz_le8 m.natAbs (by omega)
  have e1 : zl m = len m.natAbs:=rfl
  have hb : blen (oddM m).natAbs ≤ 65536:=by
   have:=blen_le_len (oddM m).natAbs
   have h3:=zl_odd m
   have e2 : zl (oddM m) = len (oddM m).natAbs:=rfl
   omega
  have ho : bitB (oddM m).natAbs 0 = true:=by
   obtain ⟨k, hk⟩:=tz_form (x:=m.natAbs) (by omega)
   have hd : m.natAbs / 2 ^ tz m.natAbs = 2 * k + 1:=by
    have:=Nat.mul_div_cancel_left (2 * k + 1) (Nat.pow_pos (n:=tz m.natAbs) (show 0 < 2 by omega))
    rwa [← hk] at this
   unfold bitB
   rw [oddM_abs, hd, Nat.pow_zero, Nat.div_one]
   exact decide_eq_true (by omega)
  have hf : fits8 (oddM m) (oddE m e) = true:=by
   unfold fits8 oddE
   rw [decide_eq_true hb, decide_eq_true (by omega), decide_eq_true (by omega), ho]
   rfl
  rw [hf]
  rfl
theorem mk_uniq {a e b f : Int} (h1 : mkR a e = 0) (h2 : mkR b f = 0) (h : dq a e = dq b f) : mkM a e = mkM b f ∧ mkE a e = mkE b f:=
 dv_uniq (mk_ok h1) (mk_ok h2) (by rw [dq_mk h1, dq_mk h2, h])
theorem mkE_at {x y : Int} {k : Nat} (h : mkR x y = 0) (hz : zl x ≤ k) : mkE x y = 0 ∨ (y ≤ mkE x y ∧ mkE x y ≤ y + 32 * (k : Int)):=by
 unfold mkE
 by_cases h0 : x = 0
 ·rw [if_pos h0]; exact Or.inl rfl
 ·rw [if_neg h0, if_pos h]
  refine Or.inr ?_
  have ht:=tz_le8 x.natAbs (by omega)
  have e1 : zl x = len x.natAbs:=rfl
  unfold oddE
  omega
theorem nf {t : Int} {v : Nat} (h : AbP t v) (hv : v ≤ 6000) : mkR t 0 = 0 ∧ zl (mkM t 0) ≤ 200 ∧ 0 ≤ mkE t 0 ∧ mkE t 0 ≤ 6400 ∧ mkM t 0 * 2 ^ (mkE t 0).toNat = t ∧ dq (mkM t 0) (mkE t 0) = dq t 0:=by
 have hz:=h.zl
 have hr : mkR t 0 = 0:=mk_fits2 (by omega) (by omega) (by omega)
 have z1:=zl_mk t 0
 have z2:=mkE_at hr (show zl t ≤ 190 by omega)
 refine ⟨hr, by omega, by omega, by omega, ?_, dq_mk hr⟩
 unfold mkM mkE
 rw [if_pos hr, if_pos hr]
 by_cases h0 : t = 0
 ·subst h0; rw [oddM_zero]; simp
 ·rw [if_neg h0, show (oddE t 0).toNat = tz t.natAbs from by unfold oddE; omega, odd_form]
theorem nf_zero {t : Int} {v : Nat} (h : AbP t v) (hv : v ≤ 6000) : mkM t 0 = 0 ↔ t = 0:=by
 obtain ⟨_, _, _, _, h5, _⟩:=nf h hv
 constructor
 ·intro e
  rw [e, Int.zero_mul] at h5
  exact h5.symm
 ·rintro rfl
  have hr:=(nf (AbP.zero 0) (by omega)).1
  unfold mkM
  rw [if_pos hr]
  exact oddM_zero
theorem nf00 : mkM 0 0 = 0 ∧ mkE 0 0 = 0:=by
 refine ⟨(nf_zero (AbP.zero 0) (by omega)).2 rfl, ?_⟩
 unfold mkE
 rw [if_pos rfl]
theorem nf_rat {t : Int} {v : Nat} (h : AbP t v) (hv : v ≤ 6000) : mkM t 0 * 2 ^ (mkE t 0).toNat = t ∧ 2 ^ (-(mkE t 0)).toNat = 1:=by
 obtain ⟨_, _, h3, _, h5, _⟩:=nf h hv
 refine ⟨h5, ?_⟩
 rw [show (-(mkE t 0)).toNat = 0 by omega, Nat.pow_zero]
theorem nf_sign {t : Int} {v : Nat} (h : AbP t v) (hv : v ≤ 6000) : (cmpI (mkM t 0) 0 == 0) = decide (t = 0):=by
 have:=nf_zero h hv
 unfold cmpI
 (repeat' split) <;> simp <;> omega
theorem nf_add {s t : Int} {v : Nat} (h1 : AbP s v) (h2 : AbP t v) (hv : v ≤ 5000) :
  mkR (addS (mkM s 0) (mkE s 0) (mkM t 0) (mkE t 0)) (min (mkE s 0) (mkE t 0)) = 0 ∧ mkM (addS (mkM s 0) (mkE s 0) (mkM t 0) (mkE t 0)) (min (mkE s 0) (mkE t 0)) = mkM (s + t) 0 ∧ mkE (addS (mkM s 0) (mkE s 0) (mkM t 0) (mkE t 0)) (min (mkE s 0) (mkE t 0)) = mkE (s + t) 0:=by
 obtain ⟨a1, a2, a3, a4, _, a6⟩:=nf h1 (by omega)
 obtain ⟨b1, b2, b3, b4, _, b6⟩:=nf h2 (by omega)
 have hz:=zl_addS (mkM s 0) (mkE s 0) (mkM t 0) (mkE t 0) 6400 (by omega) (by omega)
 have hr : mkR (addS (mkM s 0) (mkE s 0) (mkM t 0) (mkE t 0)) (min (mkE s 0) (mkE t 0)) = 0:=mk_fits9 (by omega) (by omega) (by omega)
 obtain ⟨c1, _⟩:=nf (h1.add h2) (by omega)
 exact ⟨hr, mk_uniq hr c1 (by rw [dq_add, a6, b6, dq_int, dq_int, dq_int, Rat.intCast_add])⟩
theorem nf_sub {s t : Int} {v : Nat} (h1 : AbP s v) (h2 : AbP t v) (hv : v ≤ 5000) :
  mkR (addS (mkM s 0) (mkE s 0) (-(mkM t 0)) (mkE t 0)) (min (mkE s 0) (mkE t 0)) = 0 ∧ mkM (addS (mkM s 0) (mkE s 0) (-(mkM t 0)) (mkE t 0)) (min (mkE s 0) (mkE t 0)) = mkM (s - t) 0 ∧ mkE (addS (mkM s 0) (mkE s 0) (-(mkM t 0)) (mkE t 0)) (min (mkE s 0) (mkE t 0)) = mkE (s - t) 0:=by
 obtain ⟨a1, a2, a3, a4, _, a6⟩:=nf h1 (by omega)
 obtain ⟨b1, b2, b3, b4, _, b6⟩:=nf h2 (by omega)
 have hn:=zl_neg (mkM t 0)
 have hz:=zl_addS (mkM s 0) (mkE s 0) (-(mkM t 0)) (mkE t 0) 6400 (by omega) (by omega)
 have hr : mkR (addS (mkM s 0) (mkE s 0) (-(mkM t 0)) (mkE t 0)) (min (mkE s 0) (mkE t 0)) = 0:=mk_fits9 (by omega) (by omega) (by omega)
 obtain ⟨c1, _⟩:=nf (h1.add h2.neg) (by omega)
 rw [← Int.sub_eq_add_neg] at c1
 exact ⟨hr, mk_uniq hr c1 (by rw [dq_add, dq_neg, a6, b6, dq_int, dq_int, dq_int, Rat.intCast_sub, Rat.sub_eq_add_neg])⟩
theorem nf_mul {s t : Int} {v u : Nat} (h1 : AbP s v) (h2 : AbP t u) (hv : v + u ≤ 5000) :
  mkR (mkM s 0 * mkM t 0) (mkE s 0 + mkE t 0) = 0 ∧ mkM (mkM s 0 * mkM t 0) (mkE s 0 + mkE t 0) = mkM (s * t) 0 ∧ mkE (mkM s 0 * mkM t 0) (mkE s 0 + mkE t 0) = mkE (s * t) 0:=by
 obtain ⟨a1, a2, a3, a4, _, a6⟩:=nf h1 (by omega)
 obtain ⟨b1, b2, b3, b4, _, b6⟩:=nf h2 (by omega)
 have e1:=mkE_at a1 (k:=200) (by have:=h1.zl; omega)
 have e2:=mkE_at b1 (k:=200) (by have:=h2.zl; omega)
 obtain ⟨c1, _⟩:=nf (h1.mul h2) (by omega)
 have hz : zl (mkM s 0 * mkM t 0) ≤ 400:=by
  have:=zl_mul (mkM s 0) (mkM t 0)
  omega
 have hr : mkR (mkM s 0 * mkM t 0) (mkE s 0 + mkE t 0) = 0:=mk_fits9 (by omega) (by omega) (by omega)
 exact ⟨hr, mk_uniq hr c1 (by rw [dq_mul, a6, b6, dq_int, dq_int, dq_int, Rat.intCast_mul])⟩
theorem dq_shift (s k : Int) : dq s k = dq s 0 * dq 1 k:=by
 have:=dq_mul s 0 1 k
 rw [Int.mul_one, Int.zero_add] at this
 exact this
theorem nf_dq {t k : Int} {v : Nat} (h : AbP t v) (hv : v ≤ 6000) : dq (mkM t 0) (mkE t 0 + k) = dq t k:=by
 obtain ⟨_, _, _, _, _, h6⟩:=nf h hv
 have:=dq_mul (mkM t 0) (mkE t 0) 1 k
 rw [Int.mul_one, h6, ← dq_shift] at this
 exact this
theorem nf_up {k : Nat} (hk : k ≤ 4300) : mkR (mkM 1 0) (mkE 1 0 + (k : Int)) = 0 ∧ mkM (mkM 1 0) (mkE 1 0 + (k : Int)) = mkM (2 ^ k) 0 ∧ mkE (mkM 1 0) (mkE 1 0 + (k : Int)) = mkE (2 ^ k) 0:=by
 have h1 : AbP 1 0:=by unfold AbP; decide
 obtain ⟨a1, a2, a3, a4, _⟩:=nf h1 (by omega)
 obtain ⟨c1, _⟩:=nf ((tm_one k).abs.1) (by omega)
 have hr : mkR (mkM 1 0) (mkE 1 0 + (k : Int)) = 0:=mk_fits9 (by omega) (by omega) (by omega)
 refine ⟨hr, mk_uniq hr c1 ?_⟩
 rw [nf_dq h1 (by omega)]
 refine dq_eq (F:=0) ?_ (by omega) (by omega)
 rw [show ((k : Int) - 0).toNat = k by omega, show ((0 : Int) - 0).toNat = 0 by omega]
 simp
theorem nf_down {s : Int} {v k : Nat} (h : AbP s v) (hv : v ≤ 5000) (hk : k ≤ 5000) : mkR (mkM s 0) (mkE s 0 + -(k : Int)) = 0 ∧ Dv (mkM (mkM s 0) (mkE s 0 + -(k : Int))) (mkE (mkM s 0) (mkE s 0 + -(k : Int))) ∧ dq (mkM (mkM s 0) (mkE s 0 + -(k : Int))) (mkE (mkM s 0) (mkE s 0 + -(k : Int))) = dq s (-(k : Int)) ∧
  zl (mkM (mkM s 0) (mkE s 0 + -(k : Int))) ≤ 200 ∧ -20000 ≤ mkE (mkM s 0) (mkE s 0 + -(k : Int)) ∧ mkE (mkM s 0) (mkE s 0 + -(k : Int)) ≤ 20000:=by
 obtain ⟨a1, a2, a3, a4, _, a6⟩:=nf h (by omega)
 have e1:=mkE_at a1 (k:=160) (by have:=h.zl; omega)
 have hr : mkR (mkM s 0) (mkE s 0 + -(k : Int)) = 0:=mk_fits9 (by omega) (by omega) (by omega)
 have z1:=zl_mk (mkM s 0) (mkE s 0 + -(k : Int))
 have e2:=mkE_at hr a2
 exact ⟨hr, mk_ok hr, by rw [dq_mk hr, nf_dq h (by omega)], by omega, by omega, by omega⟩

theorem np {T : Int} {p j : Nat} (h : AbP T j) (hj : j ≤ 3000) (hp : p ≤ 3000) :
  mkR T (-(p : Int)) = 0 ∧ zl (mkM T (-(p : Int))) ≤ j / 32 + 1 ∧ (-(p : Int) ≤ mkE T (-(p : Int)) ∧ mkE T (-(p : Int)) ≤ (j : Int) + 32) ∧ Dv (mkM T (-(p : Int))) (mkE T (-(p : Int))) ∧ dq (mkM T (-(p : Int))) (mkE T (-(p : Int))) = dq T (-(p : Int)):=by
 have hz:=h.zl
 have hr : mkR T (-(p : Int)) = 0:=mk_fits2 (by omega) (by omega) (by omega)
 have z1:=zl_mk T (-(p : Int))
 have z2:=mkE_at hr (k:=j / 32 + 1) hz
 exact ⟨hr, by omega, by omega, mk_ok hr, dq_mk hr⟩
theorem np_same {M E : Int} (hv : Dv M E) (hz : zl M ≤ 1900) (he : -60000 ≤ E ∧ E ≤ 4000) : mkR M (E + 0) = 0 ∧ mkM M (E + 0) = M ∧ mkE M (E + 0) = E:=by
 have hr : mkR M (E + 0) = 0:=mk_fits2 hz (by omega) (by omega)
 exact ⟨hr, dv_uniq (mk_ok hr) hv (by rw [dq_mk hr, Int.add_zero])⟩
theorem cut_nn {q : Rat} (h : 0 ≤ q) (p : Int) : 0 ≤ cutQ q p:=by
 unfold cutQ
 rw [Rat.le_floor_iff]
 exact Rat.mul_nonneg h (Rat.le_of_lt (dq_pos p))
theorem dq_nn {m : Int} (e : Int) (h : 0 ≤ m) : 0 ≤ dq m e:=by
 have:=(dq_le_iff 0 m e).2 h
 rwa [dq_zero] at this
theorem dq_shl (j : Nat) (m e : Int) : dq (m * 2 ^ j) e = dq m (e + (j : Int)):=dq_eq (F:=e) (by rw [show e - e = 0 by omega, show (e + (j : Int) - e).toNat = j by omega]; simp) (by omega) (by omega)
theorem dq_lt_iff (C D F : Int) : dq C F < dq D F ↔ C < D:=by
 rw [← Rat.not_le, dq_le_iff]
 omega
theorem dq1_mono {a b : Int} (h : a ≤ b) : dq 1 a ≤ dq 1 b:=by
 obtain ⟨j, rfl⟩ : ∃ j : Nat, b = a + (j : Int):=⟨(b - a).toNat, by omega⟩
 rw [← dq_shl, dq_le_iff]
 have:=pow2_pos j
 omega
theorem dq_shl1 (j : Nat) (e : Int) : dq ((2 ^ j : Nat) : Int) e = dq 1 (e + (j : Int)):=by
 rw [← dq_shl, Int.one_mul, cast2]
theorem top_iff {m e K : Int} (hK : 0 ≤ K) : topZ m e ≤ K ↔ -(dq 1 K) < dq m e ∧ dq m e < dq 1 K:=by
 unfold topZ
 by_cases h0 : m = 0
 ·subst h0
  rw [if_pos rfl, dq_zero]
  have hp:=dq_pos K
  refine ⟨fun _ => ⟨?_, hp⟩, fun _ => hK⟩
  have:=Rat.neg_lt_neg hp
  rwa [Rat.neg_zero] at this
 ·rw [if_neg h0]
  have hp : 0 < m.natAbs:=by omega
  have hb:=blen_pos hp
  have lo:=two_pow_blen_le hp
  have hi:=lt_two_pow_blen m.natAbs
  have e1 : dq ((2 ^ (blen m.natAbs - 1) : Nat) : Int) e ≤ dq (m.natAbs : Int) e:=(dq_le_iff _ _ _).2 (by omega)
  have e2 : dq (m.natAbs : Int) e < dq ((2 ^ blen m.natAbs : Nat) : Int) e:=(dq_lt_iff _ _ _).2 (by omega)
  rw [dq_shl1] at e1 e2
  have e3 : 0 ≤ dq (m.natAbs : Int) e:=dq_nn e (by omega)
  have key : (blen m.natAbs : Int) + e ≤ K ↔ dq (m.natAbs : Int) e < dq 1 K:=by
   constructor
   ·intro h
    exact rle_lt e2 (dq1_mono (by omega))
   ·intro h
    by_cases hc : (blen m.natAbs : Int) + e ≤ K
    ·exact hc
    ·have:=dq1_mono (a:=K) (b:=e + ((blen m.natAbs - 1 : Nat) : Int)) (by omega)
     exact absurd (Rat.le_trans this e1) (Rat.not_le.2 h)
  rw [key]
  have hn : -(dq 1 K) < 0:=by
   have:=Rat.neg_lt_neg (dq_pos K)
   rwa [Rat.neg_zero] at this
  rcases Int.lt_or_le m 0 with hm | hm
  ·rw [show m = -(m.natAbs : Int) from by omega, dq_neg, show (-(m.natAbs : Int)).natAbs = m.natAbs from by omega]
   constructor
   ·intro h
    refine ⟨Rat.neg_lt_neg h, rlt_le ?_ (dq_pos K)⟩
    have:=Rat.neg_le_neg e3
    rwa [Rat.neg_zero] at this
   ·rintro ⟨h, _⟩
    have:=Rat.neg_lt_neg h
    rwa [Rat.neg_neg, Rat.neg_neg] at this
  ·rw [show ((m.natAbs : Int)) = m from by omega] at e3 ⊢
   exact ⟨fun h => ⟨rle_lt hn e3, h⟩, fun h => h.2⟩
def fz (T : Int) : Nat:=if T = 0 then 0 else if T = -1 then 1 else if T = 1 then 2 else Nat.log2 T.natAbs / 16 + 3
theorem fz_ge {T : Int} (h : 2 ≤ T.natAbs) : fz T = Nat.log2 T.natAbs / 16 + 3:=by
 unfold fz
 rw [if_neg (by omega), if_neg (by omega), if_neg (by omega)]
theorem fz_le {T : Int} (h : T.natAbs ≤ 1) : fz T ≤ 2:=by
 unfold fz
 split
 ·omega
 ·split
  ·omega
  ·rw [if_pos (by omega)]
   exact Nat.le_refl 2
theorem fz_two (p : Nat) : fz (2 ^ p) ≤ p / 16 + 3:=by
 have e : ((2 : Int) ^ p).natAbs = 2 ^ p:=by rw [Int.natAbs_pow]; rfl
 by_cases h : 2 ≤ ((2 : Int) ^ p).natAbs
 ·rw [fz_ge h, e, Nat.log2_two_pow]
  omega
 ·have:=fz_le (T:=2 ^ p) (by omega)
  omega
structure ExR (X : Int) (p k : Nat) (T S : Int) : Prop where
 k1 : 1 ≤ k
 fk : k + fz T ≤ p / 16 + 4
 sp : 0 ≤ X → 0 ≤ T ∧ 2 ^ p ≤ S
 sn : X ≤ 0 → S ≤ 2 ^ p ∧ S ≤ 2 ^ p + T
 ta : T.natAbs ≤ 2 ^ p
 sa : S.natAbs ≤ k * 2 ^ p
 tl : tm (k - 1) (dq X (-(p : Int))) - 3 * dq 1 (-(p : Int)) ≤ dq T (-(p : Int)) ∧ dq T (-(p : Int)) ≤ tm (k - 1) (dq X (-(p : Int))) + 3 * dq 1 (-(p : Int))
 sl : esm k (dq X (-(p : Int))) - 3 * (k : Rat) * dq 1 (-(p : Int)) ≤ dq S (-(p : Int)) ∧ dq S (-(p : Int)) ≤ esm k (dq X (-(p : Int))) + 3 * (k : Rat) * dq 1 (-(p : Int))
theorem dq_onep (p : Nat) : dq (2 ^ p) (-(p : Int)) = 1:=by
 rw [dq_scale]
 exact two_cast p
theorem ExR.first (X : Int) (p : Nat) : ExR X p 1 (2 ^ p) (2 ^ p):=by
 have e : ((2 : Int) ^ p).natAbs = 2 ^ p:=by rw [Int.natAbs_pow]; rfl
 have hp:=pow2_pos p
 have hf:=fz_two p
 have hu:=dq_pos (-(p : Int))
 have e0 : tm (1 - 1) (dq X (-(p : Int))) = 1:=rfl
 have e1 : esm 1 (dq X (-(p : Int))) = 1:=by show (0 : Rat) + 1 = 1; grind
 have e2 : ((1 : Nat) : Rat) = 1:=rfl
 refine ⟨by omega, by omega, fun _ => ⟨by omega, Int.le_refl _⟩, fun _ => ⟨Int.le_refl _, by omega⟩, by omega, by omega, ?_, ?_⟩
 ·rw [dq_onep, e0]; grind
 ·rw [dq_onep, e1, e2]; grind
theorem ExR.last {X : Int} {p k : Nat} {S : Int} (hX : X.natAbs * 2 ^ 32 ≤ 2 ^ p) (h : ExR X p k 0 S) (hk : 2 ≤ k) :
  LoE (dq S (-(p : Int)) - (3 * (k : Rat) + 3) * dq 1 (-(p : Int))) (dq X (-(p : Int))) ∧ UpE (dq X (-(p : Int))) (dq S (-(p : Int)) + (3 * (k : Rat) + 3) * dq 1 (-(p : Int))):=by
 obtain ⟨k1, fk, sp, sn, ta, sa, ⟨t1, t2⟩, ⟨s1, s2⟩⟩:=h
 have hu:=dq_pos (-(p : Int))
 rw [dq_zero] at t1 t2
 have hx : rab (dq X (-(p : Int))) ≤ 1 / 8:=by
  have e : (((2 : Nat) ^ p : Nat) : Int) = 2 ^ p:=by simp
  have h1 : -(2 ^ p) ≤ X * 8:=by rw [← e]; omega
  have h2 : X * 8 ≤ 2 ^ p:=by rw [← e]; omega
  have g1:=(dq_le_iff _ _ (-(p : Int))).2 h1
  have g2:=(dq_le_iff _ _ (-(p : Int))).2 h2
  rw [dq_neg, dq_onep, dq_scale (X * 8), Rat.intCast_mul] at g1
  rw [dq_onep, dq_scale (X * 8), Rat.intCast_mul] at g2
  rw [dq_scale X]
  have e8 : ((8 : Int) : Rat) = 8:=rfl
  rw [e8] at g1 g2
  unfold rab
  split <;> grind
 obtain ⟨j, rfl⟩ : ∃ j, k = j + 1:=⟨k - 1, by omega⟩
 rw [show j + 1 - 1 = j by omega] at t1 t2
 have h0:=rab_nn (dq X (-(p : Int)))
 have b1 : tm j (rab (dq X (-(p : Int)))) ≤ 3 * dq 1 (-(p : Int)):=by
  unfold rab
  split
  ·grind
  ·rw [tm_neg]
   rcases sgk_or j with e | e <;> rw [e] <;> grind
 have b2:=tm_mul j (rab (dq X (-(p : Int))))
 have b3:=tm_nn j h0
 have b4:=tm_nn (j + 1) h0
 have hj:=nat_nn j
 have b5 : tm (j + 1) (rab (dq X (-(p : Int)))) ≤ dq 1 (-(p : Int)):=by
  have q1:=Rat.mul_le_mul_of_nonneg_left hx b3
  have q2:=Rat.mul_le_mul_of_nonneg_left (show 1 ≤ (j : Rat) + 1 by grind) b4
  grind
 refine ⟨(exp_lo j _).down (by grind), (exp_up j (by grind)).up (by grind)⟩
theorem rp_succ (b : Rat) (n : Nat) : rp b (n + 1) = rp b n * b:=rfl
theorem rp_bern {u : Rat} (hu : 0 ≤ u) (n : Nat) : 1 + (n : Rat) * u ≤ rp (1 + u) n:=by
  induction n with
  | zero => show 1 + ((0 : Nat) : Rat) * u ≤ 1; rw [show ((0 : Nat) : Rat) = 0 from rfl]; grind
  | succ n ih =>
    have e : ((n + 1 : Nat) : Rat) = (n : Rat) + 1:=by push_cast; rfl
    rw [rp_succ, e]
    have h1:=Rat.mul_le_mul_of_nonneg_right ih (show 0 ≤ 1 + u by grind)
    have h2:=Rat.mul_nonneg (nat_nn n) (rsq_nn u)
    grind
theorem rp_top {u : Rat} (hu : 0 ≤ u) (n : Nat) (h : (n : Rat) * u ≤ 1) : rp (1 + u) n * (1 - (n : Rat) * u) ≤ 1:=by
  induction n with
  | zero => show (1 : Rat) * (1 - ((0 : Nat) : Rat) * u) ≤ 1; rw [show ((0 : Nat) : Rat) = 0 from rfl]; grind
  | succ n ih =>
    have e : ((n + 1 : Nat) : Rat) = (n : Rat) + 1:=by push_cast; rfl
    rw [rp_succ, e]
    rw [e] at h
    have h0:=Rat.mul_nonneg (nat_nn n) hu
    have h1:=ih (by grind)
    have h2:=Rat.mul_nonneg (nat_nn n) (rsq_nn u)
    have h3:=rsq_nn u
    have h4 : 0 ≤ rp (1 + u) n:=rp_nn (by grind) n
    have h5:=Rat.mul_nonneg h4 (show 0 ≤ (n : Rat) * (u * u) + u * u by grind)
    grind
theorem rp_small {u : Rat} (hu : 0 ≤ u) (n : Nat) (h : (n : Rat) * u ≤ 1 / 2) : rp (1 + u) n ≤ 1 + 2 * ((n : Rat) * u):=by
 have h1:=rp_top hu n (by grind)
 have h0:=Rat.mul_nonneg (nat_nn n) hu
 generalize rp (1 + u) n = G at *
 generalize (n : Rat) * u = t at *
 refine le_of_mul (c:=1 - t) (by grind) ?_
 have h2:=Rat.mul_nonneg h0 (show 0 ≤ 1 - 2 * t by grind)
 grind
structure PwU (p n : Nat) (s : Int) (y : Rat) : Prop where
 lo : ∃ a, 0 < a ∧ LoE a y ∧ dq s (-(p : Int)) ≤ a * rp (1 + dq 1 (-(p : Int))) n
 up : ∃ b, UpE y b ∧ b ≤ dq s (-(p : Int)) * rp (1 + dq 1 (-(p : Int))) n
 one : 2 ^ p ≤ s
structure PwD (p n : Nat) (s : Int) (y : Rat) : Prop where
 lo : LoE (dq s (-(p : Int)) - (rp (1 + dq 1 (-(p : Int))) n - 1)) y
 up : UpE y (dq s (-(p : Int)) + (rp (1 + dq 1 (-(p : Int))) n - 1))
 nn : 0 ≤ s
 one : s ≤ 2 ^ p
def PwB (p n : Nat) (s : Int) (y : Rat) : Prop:=(PwU p n s y ∧ 0 ≤ y) ∨ (PwD p n s y ∧ y ≤ 0)
theorem PwB.top {p n : Nat} {s : Int} {y B : Rat} (h : PwB p n s y) (hB : UpE y B) (hB1 : 1 ≤ B) (hn : (n : Rat) * dq 1 (-(p : Int)) ≤ 1 / 2) : 0 ≤ s ∧ dq s (-(p : Int)) ≤ 2 * B:=by
 have hu:=dq_pos (-(p : Int))
 have hG:=rp_small (Rat.le_of_lt hu) n hn
 rcases h with ⟨h, hy⟩ | ⟨h, hy⟩
 ·obtain ⟨a, ha, l1, l2⟩:=h.lo
  have h1:=l1.le hB
  have hP:=pow2_pos p
  have h2:=h.one
  have q1:=Rat.mul_le_mul_of_nonneg_left (show rp (1 + dq 1 (-(p : Int))) n ≤ 2 by grind) (Rat.le_of_lt ha)
  exact ⟨by omega, by grind⟩
 ·have h4:=(dq_le_iff _ _ (-(p : Int))).2 h.one
  rw [dq_onep] at h4
  exact ⟨h.nn, by grind⟩
theorem arg_near {a b x y u : Rat} (hu : 0 < u) (hu2 : u ≤ 1 / 2) (h1 : x ≤ y + u) (h2 : y ≤ x + u) (la : LoE a x) (ub : UpE x b) (ha2 : a ≤ 2) (hb : b ≤ 2) : LoE (a - 2 * u) y ∧ UpE y (b + 4 * u):=by
 have g1:=exp_line (-u)
 have g2:=g1.neg (by grind)
 rw [Rat.neg_neg] at g2
 have g3 : (1 + -u)⁻¹ ≤ 1 + 2 * u:=by
  refine le_of_mul (c:=1 + -u) (by grind) ?_
  rw [Rat.inv_mul_cancel _ (by grind)]
  have:=Rat.mul_nonneg (Rat.le_of_lt hu) (show 0 ≤ 1 - 2 * u by grind)
  grind
 have hbp:=ub.pos
 refine ⟨?_, ((ub.add (g2.up g3)).mono h2).up ?_⟩
 ·by_cases h0 : 0 < a
  ·have w:=la.add g1 h0 (by grind)
   refine (w.mono (show x + -u ≤ y by grind) (Rat.mul_nonneg (Rat.le_of_lt h0) (by grind))).down ?_
   have:=Rat.mul_le_mul_of_nonneg_right ha2 (Rat.le_of_lt hu)
   grind
  ·exact (LoE.zero _).down (by grind)
 ·have:=Rat.mul_le_mul_of_nonneg_right hb (Rat.le_of_lt hu)
  grind
theorem PwB.first {p E : Nat} {S : Int} {y : Rat} (h1 : LoE (dq S (-(p : Int)) - (E : Rat) * dq 1 (-(p : Int))) y) (h2 : UpE y (dq S (-(p : Int)) + (E : Rat) * dq 1 (-(p : Int)))) (hE : (E : Rat) * dq 1 (-(p : Int)) ≤ 1 / 4)
  (hp : 0 ≤ y → 2 ^ p ≤ S) (hn : y ≤ 0 → 0 ≤ S ∧ S ≤ 2 ^ p) : PwB p (2 * E) S y:=by
 have hu:=dq_pos (-(p : Int))
 have hb:=rp_bern (Rat.le_of_lt hu) (2 * E)
 have e : ((2 * E : Nat) : Rat) * dq 1 (-(p : Int)) = 2 * ((E : Rat) * dq 1 (-(p : Int))):=by
  rw [Rat.natCast_mul, show ((2 : Nat) : Rat) = 2 from rfl]
  grind
 rw [e] at hb
 have ht:=Rat.mul_nonneg (nat_nn E) (Rat.le_of_lt hu)
 by_cases hy : 0 ≤ y
 ·have hS:=hp hy
  have h4:=(dq_le_iff _ _ (-(p : Int))).2 hS
  rw [dq_onep] at h4
  refine Or.inl ⟨⟨⟨_, ?_, h1, ?_⟩, ⟨_, h2, ?_⟩, hS⟩, hy⟩
  ·grind
  ·generalize rp (1 + dq 1 (-(p : Int))) (2 * E) = G at *
   generalize (E : Rat) * dq 1 (-(p : Int)) = t at *
   generalize dq S (-(p : Int)) = s1 at *
   have q1:=Rat.mul_le_mul_of_nonneg_left hb (show 0 ≤ s1 - t by grind)
   have q2:=Rat.mul_nonneg ht (show 0 ≤ 2 * (s1 - t) - 1 by grind)
   grind
  ·generalize rp (1 + dq 1 (-(p : Int))) (2 * E) = G at *
   generalize (E : Rat) * dq 1 (-(p : Int)) = t at *
   generalize dq S (-(p : Int)) = s1 at *
   have q1:=Rat.mul_le_mul_of_nonneg_left hb (show 0 ≤ s1 by grind)
   have q2:=Rat.mul_le_mul_of_nonneg_right h4 ht
   grind
 ·obtain ⟨n1, n2⟩:=hn (by grind)
  exact Or.inr ⟨⟨h1.down (by grind), h2.up (by grind), n1, n2⟩, by grind⟩

theorem dq_add1 (a b : Int) : dq 1 (a + b) = dq 1 a * dq 1 b:=by
 have:=dq_mul 1 a 1 b
 rwa [Int.one_mul] at this
theorem one_dg (n : Nat) : (1 : Rat) ≤ dq 1 (n : Int):=by
  induction n with
  | zero => exact Rat.le_refl
  | succ n ih =>
    rw [show ((n + 1 : Nat) : Int) = (n : Int) + 1 by omega, dq_add1]
    have e : dq 1 1 = 2:=rfl
    rw [e]
    grind
structure PwH (m e : Int) (w h p dg : Nat) : Prop where
 ep : p = w + 32 + h + dg
 up : UpE (dq m e) (dq 1 (dg : Int))
 lo : -dq 1 ((h : Int) - 64) ≤ dq m e
 hi : dq m e ≤ dq 1 ((h : Int) - 64)
 p7 : p ≤ 700
theorem dq_anti {a b : Int} (h : a ≤ b) : dq 1 a ≤ dq 1 b:=by
 obtain ⟨n, rfl⟩ : ∃ n : Nat, b = a + (n : Int):=⟨(b - a).toNat, by omega⟩
 rw [dq_add1]
 have:=Rat.mul_le_mul_of_nonneg_left (one_dg n) (Rat.le_of_lt (dq_pos a))
 grind
def nrX (m e : Int) (h p : Nat) : Int:=(cutQ (dq m (e + -(h : Int))) ((p : Int) + 1) + 1) / 2
theorem dq_hlv (m e h : Int) : dq m (e + -h) = dq m e * dq 1 (-h):=by
 have:=dq_mul m e 1 (-h)
 rwa [Int.mul_one] at this
theorem PwH.arg {m e : Int} {w h p dg : Nat} (H : PwH m e w h p dg) : (nrX m e h p).natAbs * 2 ^ 32 ≤ 2 ^ p ∧ (0 ≤ dq m e → 0 ≤ nrX m e h p) ∧ (dq m e ≤ 0 → nrX m e h p ≤ 0) ∧
  dq (nrX m e h p) (-(p : Int)) ≤ dq m (e + -(h : Int)) + dq 1 (-(p : Int)) ∧ dq m (e + -(h : Int)) ≤ dq (nrX m e h p) (-(p : Int)) + dq 1 (-(p : Int)):=by
 have n1:=near_lo (dq m (e + -(h : Int))) (p : Int)
 have n2:=near_hi (dq m (e + -(h : Int))) (p : Int)
 have hh:=dq_half (p : Int)
 have hu:=dq_pos (-(p : Int))
 have hu2:=dq_pos (-((p : Int) + 1))
 have ep:=H.ep
 have hq:=dq_hlv m e (h : Int)
 have h64 : dq 1 ((h : Int) - 64) * dq 1 (-(h : Int)) = dq 1 (-64):=by rw [← dq_add1]; congr 1; omega
 have hhp:=dq_pos (-(h : Int))
 have q1:=Rat.mul_le_mul_of_nonneg_right H.hi (Rat.le_of_lt hhp)
 have q2:=Rat.mul_le_mul_of_nonneg_right H.lo (Rat.le_of_lt hhp)
 rw [h64, ← hq] at q1
 rw [Rat.neg_mul, h64, ← hq] at q2
 have hX : (cutQ (dq m (e + -(h : Int))) ((p : Int) + 1) + 1) / 2 = nrX m e h p:=rfl
 rw [hX] at n1 n2
 have c32 : dq 1 (-(p : Int)) ≤ dq 1 (-32):=dq_anti (by omega)
 have v32 : dq 1 (-32) = 1 / 4294967296:=by decide +kernel
 have v64 : dq 1 (-64) = 1 / 18446744073709551616:=by decide +kernel
 refine ⟨?_, fun h0 => ?_, fun h0 => ?_, by grind, by grind⟩
 ·have e32 : (2 : Nat) ^ 32 = 4294967296:=by decide
  have eP : (((2 : Nat) ^ p : Nat) : Int) = 2 ^ p:=by simp
  have k1 : nrX m e h p * 4294967296 ≤ 2 ^ p:=by
   refine (dq_le_iff _ _ (-(p : Int))).1 ?_
   rw [dq_onep, dq_scale (nrX m e h p * 4294967296), Rat.intCast_mul]
   rw [dq_scale (nrX m e h p)] at n1
   have e9 : ((4294967296 : Int) : Rat) = 4294967296:=by decide +kernel
   rw [e9]
   rw [v32] at c32
   rw [v64] at q1 q2
   clear v32 v64 h64 hX e9 eP e32 hq
   generalize ((nrX m e h p : Int) : Rat) = X at *
   generalize dq 1 (-(p : Int)) = u at *
   generalize dq 1 (-((p : Int) + 1)) = u2 at *
   generalize dq m (e + -(h : Int)) = q at *
   clear H ep
   grind
  have k2 : -(2 ^ p) ≤ nrX m e h p * 4294967296:=by
   refine (dq_le_iff _ _ (-(p : Int))).1 ?_
   rw [dq_neg, dq_onep, dq_scale (nrX m e h p * 4294967296), Rat.intCast_mul]
   rw [dq_scale (nrX m e h p)] at n2
   have e9 : ((4294967296 : Int) : Rat) = 4294967296:=by decide +kernel
   rw [e9]
   rw [v32] at c32
   rw [v64] at q1 q2
   clear v32 v64 h64 hX e9 eP e32 hq
   generalize ((nrX m e h p : Int) : Rat) = X at *
   generalize dq 1 (-(p : Int)) = u at *
   generalize dq 1 (-((p : Int) + 1)) = u2 at *
   generalize dq m (e + -(h : Int)) = q at *
   clear H ep
   grind
  rw [e32]
  rw [← eP] at k1 k2
  omega
 ·unfold nrX
  have h1 : 0 ≤ dq m (e + -(h : Int)):=by rw [hq]; exact Rat.mul_nonneg h0 (Rat.le_of_lt hhp)
  have : 0 ≤ cutQ (dq m (e + -(h : Int))) ((p : Int) + 1):=by
   unfold cutQ
   refine Rat.le_floor_iff.2 ?_
   exact Rat.mul_nonneg h1 (Rat.le_of_lt (dq_pos _))
  omega
 ·unfold nrX
  have h1 : dq m (e + -(h : Int)) ≤ 0:=by
   rw [hq]
   have:=Rat.mul_nonneg (show 0 ≤ -(dq m e) by grind) (Rat.le_of_lt hhp)
   grind
  have : cutQ (dq m (e + -(h : Int))) ((p : Int) + 1) ≤ 0:=by
   have h2:=cut_lo (dq m (e + -(h : Int))) ((p : Int) + 1)
   have h3:=(dq_le_iff (cutQ (dq m (e + -(h : Int))) ((p : Int) + 1)) 0 (-((p : Int) + 1))).1 (by rw [dq_zero]; exact Rat.le_trans h2 h1)
   exact h3
  omega
def PwL (m e : Int) (h p i : Nat) (s : Int) : Prop:=i ≤ h ∧ ∃ n0, n0 ≤ 1000 ∧ PwB p ((n0 + 1) * 2 ^ i - 1) s ((((2 : Nat) ^ i : Nat) : Rat) * dq m (e + -(h : Int)))
theorem first_num {u x s k : Rat} (hu : 0 < u) (c32 : u ≤ 1 / 4294967296) (hk0 : 0 ≤ k) (hk : k ≤ 60) (hx : -(1 / 8) ≤ x) (b1 : 1 + x ≤ s + (3 * k + 3) * u) (b2 : s - (3 * k + 3) * u ≤ 8 / 7) :
  u ≤ 1 / 2 ∧ s - (3 * k + 3) * u ≤ 2 ∧ s + (3 * k + 3) * u ≤ 2 ∧ (3 * k + 7) * u ≤ 1 / 4 ∧ 0 ≤ s ∧ s - (3 * k + 7) * u ≤ s - (3 * k + 3) * u - 2 * u ∧ s + (3 * k + 3) * u + 4 * u ≤ s + (3 * k + 7) * u:=by
 have h1 : (3 * k + 7) * u ≤ 187 * u:=Rat.mul_le_mul_of_nonneg_right (by grind) (Rat.le_of_lt hu)
 have h2 : 0 ≤ (3 * k + 3) * u:=Rat.mul_nonneg (by grind) (Rat.le_of_lt hu)
 refine ⟨by grind, by grind, by grind, by grind, by grind, by grind, by grind⟩
theorem PwL.first {m e : Int} {w h p dg k : Nat} {S : Int} (H : PwH m e w h p dg) (R : ExR (nrX m e h p) p k 0 S) : PwL m e h p 0 S:=by
 obtain ⟨x1, x2, x3, x4, x5⟩:=H.arg
 have hk2 : 2 ≤ k:=by
  refine Nat.not_lt.1 fun hlt => ?_
  have h1:=R.k1
  obtain rfl : k = 1:=by omega
  have h2:=R.tl.1
  rw [show tm (1 - 1) (dq (nrX m e h p) (-(p : Int))) = 1 from rfl, dq_zero] at h2
  have ep:=H.ep
  have c32 : dq 1 (-(p : Int)) ≤ dq 1 (-32):=dq_anti (by omega)
  have v32 : dq 1 (-32) = 1 / 4294967296:=by decide +kernel
  rw [v32] at c32
  clear x1 x2 x3 x4 x5 R H ep hlt h1 v32
  generalize dq 1 (-(p : Int)) = u at *
  grind
 obtain ⟨l1, l2⟩:=R.last x1 hk2
 have fk:=R.fk
 have p7:=H.p7
 have ep:=H.ep
 have hkb : k ≤ 60:=by omega
 have c32 : dq 1 (-(p : Int)) ≤ dq 1 (-32):=dq_anti (by omega)
 have v32 : dq 1 (-32) = 1 / 4294967296:=by decide +kernel
 have hu:=dq_pos (-(p : Int))
 have hkr : (k : Rat) ≤ 60:=by exact_mod_cast hkb
 have hk0:=nat_nn k
 obtain ⟨x, hx⟩:=nm9 (dq (nrX m e h p) (-(p : Int)))
 have hxb : -(1 / 8) ≤ x ∧ x ≤ 1 / 8:=by
  have eP : (((2 : Nat) ^ p : Nat) : Int) = 2 ^ p:=by simp
  have h1 : -(2 ^ p) ≤ nrX m e h p * 8:=by rw [← eP]; omega
  have h2 : nrX m e h p * 8 ≤ 2 ^ p:=by rw [← eP]; omega
  have g1:=(dq_le_iff _ _ (-(p : Int))).2 h1
  have g2:=(dq_le_iff _ _ (-(p : Int))).2 h2
  rw [dq_neg, dq_onep, dq_scale (nrX m e h p * 8), Rat.intCast_mul] at g1
  rw [dq_onep, dq_scale (nrX m e h p * 8), Rat.intCast_mul] at g2
  rw [dq_scale (nrX m e h p)] at hx
  have e8 : ((8 : Int) : Rat) = 8:=rfl
  rw [e8] at g1 g2
  clear x1 x2 x3 x4 x5 R H l1 l2 c32 v32 hu hkr hk0
  generalize ((nrX m e h p : Int) : Rat) = X at *
  generalize dq 1 (-(p : Int)) = u at *
  constructor <;> grind
 rw [hx] at l1 l2 x4 x5
 -- the sum lies between 1/2 and 2
 have b1:=(exp_line x).le l2
 have b2 : dq S (-(p : Int)) - (3 * (k : Rat) + 3) * dq 1 (-(p : Int)) ≤ 8 / 7:=by
  obtain ⟨z1, z2⟩:=hxb
  have p1 : 0 < 1 + -x:=by clear x1 x2 x3 x4 x5 R H l1 l2 c32 v32 hu hkr hk0 hx b1; grind
  have g:=(exp_line (-x)).neg p1
  rw [Rat.neg_neg] at g
  refine Rat.le_trans (l1.le g) ?_
  refine le_of_mul (c:=1 + -x) p1 ?_
  have p2 : 1 + -x ≠ 0:=by clear x1 x2 x3 x4 x5 R H l1 l2 c32 v32 hu hkr hk0 hx b1 g; grind
  rw [Rat.inv_mul_cancel _ p2]
  clear x1 x2 x3 x4 x5 R H l1 l2 c32 v32 hu hkr hk0 hx b1 g p2
  grind
 rw [v32] at c32
 obtain ⟨f1, f2, f3, f4, f5, f6, f7⟩:=first_num hu c32 hk0 hkr hxb.1 b1 b2
 obtain ⟨y1, y2⟩:=arg_near hu f1 x4 x5 l1 l2 f2 f3
 have e7 : ((3 * k + 7 : Nat) : Rat) = 3 * (k : Rat) + 7:=by push_cast; rfl
 have hy:=dq_hlv m e (h : Int)
 have hhp:=dq_pos (-(h : Int))
 refine ⟨by omega, 2 * (3 * k + 7), by omega, ?_⟩
 rw [show (2 * (3 * k + 7) + 1) * 2 ^ 0 - 1 = 2 * (3 * k + 7) by rw [Nat.pow_zero]; omega, show (((2 : Nat) ^ 0 : Nat) : Rat) * dq m (e + -(h : Int)) = dq m (e + -(h : Int)) from by rw [Nat.pow_zero]; exact Rat.one_mul _]
 refine PwB.first (y1.down ?_) (y2.up ?_) ?_ (fun h0 => ?_) (fun h0 => ?_)
 ·rw [e7]; exact f6
 ·rw [e7]; exact f7
 ·rw [e7]; exact f4
 ·refine (R.sp (x2 ?_)).2
  rw [hy] at h0
  clear x1 x2 x3 x4 x5 R H l1 l2 c32 v32 hu hkr hk0 hx b1 b2 f1 f2 f3 f4 f5 f6 f7 y1 y2 e7 hxb
  generalize dq m e = D at *
  generalize dq 1 (-(h : Int)) = H2 at *
  refine Rat.not_lt.1 fun hlt => ?_
  have:=Rat.mul_pos (show 0 < -D by grind) hhp
  grind
 ·have hd : dq m e ≤ 0:=by
   rw [hy] at h0
   clear x1 x2 x3 x4 x5 R H l1 l2 c32 v32 hu hkr hk0 hx b1 b2 f1 f2 f3 f4 f5 f6 f7 y1 y2 e7 hxb
   generalize dq m e = D at *
   generalize dq 1 (-(h : Int)) = H2 at *
   refine Rat.not_lt.1 fun hlt => ?_
   have:=Rat.mul_pos hlt hhp
   grind
  refine ⟨?_, (R.sn (x3 hd)).1⟩
  refine (dq_le_iff 0 S (-(p : Int))).1 ?_
  rw [dq_zero]
  exact f5
theorem nat_dq (n : Nat) : (((2 : Nat) ^ n : Nat) : Rat) = dq 1 (n : Int):=by
  induction n with
  | zero => rfl
  | succ n ih =>
    rw [Nat.pow_succ, Rat.natCast_mul, ih, show ((n + 1 : Nat) : Int) = (n : Int) + 1 by omega, dq_add1]
    rfl
theorem pw_n {n0 i h p : Nat} (h0 : n0 ≤ 1000) (hi : i ≤ h) : (((n0 + 1) * 2 ^ i - 1 : Nat) : Rat) * dq 1 (-(p : Int)) ≤ dq 1 (10 + (h : Int) - (p : Int)):=by
 have h1 : (n0 + 1) * 2 ^ i - 1 ≤ 2 ^ (10 + h):=by
  have a1 : (n0 + 1) * 2 ^ i ≤ 1024 * 2 ^ h:=Nat.mul_le_mul (by omega) (Nat.pow_le_pow_right (by omega) hi)
  have e10 : (2 : Nat) ^ 10 = 1024:=by decide
  rw [Nat.pow_add, e10]
  omega
 have h2 : (((n0 + 1) * 2 ^ i - 1 : Nat) : Rat) ≤ (((2 : Nat) ^ (10 + h) : Nat) : Rat):=by exact_mod_cast h1
 rw [nat_dq] at h2
 have h3:=Rat.mul_le_mul_of_nonneg_right h2 (Rat.le_of_lt (dq_pos (-(p : Int))))
 rw [← dq_add1, show ((10 + h : Nat) : Int) + -(p : Int) = 10 + (h : Int) - (p : Int) by omega] at h3
 exact h3
theorem PwL.mid {m e : Int} {w h p dg i : Nat} (H : PwH m e w h p dg) (hi : i ≤ h) : UpE ((((2 : Nat) ^ i : Nat) : Rat) * dq m (e + -(h : Int))) (dq 1 (dg : Int)):=by
 have hq:=dq_hlv m e (h : Int)
 have hhp:=dq_pos (-(h : Int))
 have e1 : (((2 : Nat) ^ h : Nat) : Rat) * dq m (e + -(h : Int)) = dq m e:=by
  rw [hq, nat_dq]
  have:=dq_unit (h : Int)
  grind
 by_cases h0 : 0 ≤ dq m (e + -(h : Int))
 ·refine H.up.mono ?_
  rw [← e1]
  refine Rat.mul_le_mul_of_nonneg_right ?_ h0
  exact_mod_cast Nat.pow_le_pow_right (n:=2) (by omega) hi
 ·refine (exp_0.2.mono ?_).up (one_dg dg)
  have:=Rat.mul_nonneg (nat_nn (2 ^ i)) (show 0 ≤ -(dq m (e + -(h : Int))) by grind)
  grind
theorem PwL.size {m e : Int} {w h p dg i : Nat} {s : Int} (H : PwH m e w h p dg) (L : PwL m e h p i s) : AbP s (p + dg + 1):=by
 obtain ⟨hi, n0, h0, b⟩:=L
 have ep:=H.ep
 have hn:=pw_n (p:=p) h0 hi
 have hc : dq 1 (10 + (h : Int) - (p : Int)) ≤ dq 1 (-1):=dq_anti (by omega)
 have v1 : dq 1 (-1) = 1 / 2:=by decide +kernel
 obtain ⟨t1, t2⟩:=b.top (PwL.mid H hi) (one_dg dg) (by grind)
 have e2 : 2 * dq 1 (dg : Int) = dq (2 ^ (p + dg + 1)) (-(p : Int)):=by
  have : dq (2 ^ (p + dg + 1)) (-(p : Int)) = dq 1 ((dg : Int) + 1):=by
   refine dq_eq (F := -(p : Int)) ?_ (by omega) (by omega)
   rw [show (-(p : Int) - -(p : Int)).toNat = 0 by omega, show ((dg : Int) + 1 - -(p : Int)).toNat = p + dg + 1 by omega]
   simp
  rw [this, dq_add1]
  have v2 : dq 1 1 = 2:=rfl
  rw [v2]
  grind
 rw [e2] at t2
 have t3:=(dq_le_iff _ _ _).1 t2
 unfold AbP
 have eP : (((2 : Nat) ^ (p + dg + 1) : Nat) : Int) = 2 ^ (p + dg + 1):=by simp
 rw [← eP] at t3
 omega
theorem top_bd (m e : Int) : -dq 1 (topZ m e) ≤ dq m e ∧ dq m e ≤ dq 1 (topZ m e):=by
 unfold topZ
 by_cases h0 : m = 0
 ·subst h0
  rw [if_pos rfl, dq_zero]
  have:=dq_pos 0
  constructor <;> grind
 ·rw [if_neg h0]
  have hi:=lt_two_pow_blen m.natAbs
  obtain ⟨n, hn⟩:=nm9 (blen m.natAbs)
  rw [hn] at hi ⊢
  have eP : dq ((2 ^ n : Nat) : Int) e = dq 1 ((n : Int) + e):=by
   rw [dq_scale, Rat.intCast_natCast, nat_dq, ← dq_add1]
  rw [← eP, ← dq_neg]
  exact ⟨(dq_le_iff _ _ _).2 (by omega), (dq_le_iff _ _ _).2 (by omega)⟩
theorem nx {T x : Int} {j : Nat} (h : AbP T j) (hj : j ≤ 20000) (hx : -20000 ≤ x ∧ x ≤ 20000) :
  mkR T x = 0 ∧ zl (mkM T x) ≤ j / 32 + 1 ∧ (mkE T x = 0 ∨ (x ≤ mkE T x ∧ mkE T x ≤ x + (j : Int) + 32)) ∧ Dv (mkM T x) (mkE T x) ∧ dq (mkM T x) (mkE T x) = dq T x:=by
 have hz:=h.zl
 have hr : mkR T x = 0:=mk_fits9 (by omega) (by omega) (by omega)
 have z1:=zl_mk T x
 have z2:=mkE_at hr (k:=j / 32 + 1) hz
 exact ⟨hr, by omega, by omega, mk_ok hr, dq_mk hr⟩
theorem nx_zero {x : Int} (hx : -20000 ≤ x ∧ x ≤ 20000) : mkM 0 x = 0 ∧ mkE 0 x = 0:=by
 have hr:=(nx (x:=x) (AbP.zero 0) (by omega) hx).1
 constructor
 ·unfold mkM; rw [if_pos hr]; exact oddM_zero
 ·unfold mkE; rw [if_pos rfl]
theorem permN {p : Nat} (h : p ≤ 8192) : permB (p : Int) = true:=by
 unfold permB
 rw [decide_eq_true (show (-2048 : Int) ≤ (p : Int) by omega), decide_eq_true (show (p : Int) ≤ 8192 by omega)]
 rfl
theorem nx_add {s t x : Int} {j : Nat} (h1 : AbP s j) (h2 : AbP t j) (hj : j ≤ 6000) (hx : -6000 ≤ x ∧ x ≤ 100) :
  mkR (addS (mkM s x) (mkE s x) (mkM t x) (mkE t x)) (min (mkE s x) (mkE t x)) = 0 ∧
  mkM (addS (mkM s x) (mkE s x) (mkM t x) (mkE t x)) (min (mkE s x) (mkE t x)) = mkM (s + t) x ∧
  mkE (addS (mkM s x) (mkE s x) (mkM t x) (mkE t x)) (min (mkE s x) (mkE t x)) = mkE (s + t) x:=by
 obtain ⟨a1, a2, a3, a4, a5⟩:=nx (x:=x) h1 (by omega) (by omega)
 obtain ⟨b1, b2, b3, b4, b5⟩:=nx (x:=x) h2 (by omega) (by omega)
 have hz:=zl_addS (mkM s x) (mkE s x) (mkM t x) (mkE t x) 7500 (by omega) (by omega)
 obtain ⟨c1, _⟩:=nx (x:=x) (h1.add h2) (by omega) (by omega)
 have hr : mkR (addS (mkM s x) (mkE s x) (mkM t x) (mkE t x)) (min (mkE s x) (mkE t x)) = 0:=mk_fits9 (by omega) (by omega) (by omega)
 exact ⟨hr, mk_uniq hr c1 (by rw [dq_add, a5, b5, dq_addI])⟩
theorem one_p (p : Nat) : dq (2 ^ p) (-(p : Int)) = 1:=by rw [dq_scale]; exact two_cast p
theorem abp_of {y : Int} {p : Nat} (h0 : 0 ≤ y) (h : y ≤ 2 ^ p) : AbP y p:=by
 unfold AbP
 have : ((2 ^ p : Nat) : Int) = 2 ^ p:=by push_cast; rfl
 omega
structure SeP (Q : Int) (p zs K : Nat) : Prop where
 q0 : 0 ≤ Q
 q1 : 16 * Q < 2 ^ p
 z4 : 4 ≤ zs
 zp : (Q = 0 ∧ zs = p + 1) ∨ zs ≤ p
 qz : Q < 2 ^ (p - zs)
 kz : K * zs ≤ p
 kz2 : p < (K + 1) * zs
theorem SeP.q16 {Q : Int} {p zs K : Nat} (h : SeP Q p zs K) : 0 ≤ dq Q (-(p : Int)) ∧ dq Q (-(p : Int)) ≤ 1 / 16:=by
 have h0:=(dq_le_iff 0 Q (-(p : Int))).2 h.q0
 rw [dq_zero] at h0
 refine ⟨h0, ?_⟩
 have h1:=(dq_le_iff (16 * Q) (2 ^ p) (-(p : Int))).2 (by have:=h.q1; omega)
 rw [one_p, dq_scale (16 * Q), Rat.intCast_mul] at h1
 rw [dq_scale]
 have e : ((16 : Int) : Rat) = 16:=rfl
 rw [e] at h1
 generalize (Q : Rat) = a at *
 generalize dq 1 (-(p : Int)) = u at *
 grind
structure SeJ (Q : Int) (p zs K j : Nat) (x T : Int) : Prop where
 jk : j ≤ K + 1
 xe : x + (((K + 1 - j) * zs : Nat) : Int) = (p : Int)
 t0 : 0 ≤ T
 tx : T = 0 ∨ 0 ≤ x
 up : dq T (-x) ≤ hr (dq Q (-(p : Int))) j (K + 1 - j)
 lo : hr (dq Q (-(p : Int))) j (K + 1 - j) - 2 * (j : Rat) * dq 1 (-x) ≤ dq T (-x)
theorem SeJ.first {Q : Int} {p zs K : Nat} : SeJ Q p zs K 0 ((p : Int) - (((K + 1) * zs : Nat) : Int)) 0:=by
 refine ⟨by omega, by simp, by omega, Or.inl rfl, ?_, ?_⟩
 ·rw [dq_zero]; exact Rat.le_refl
 ·rw [dq_zero]
  show (0 : Rat) - 2 * ((0 : Nat) : Rat) * _ ≤ 0
  rw [show ((0 : Nat) : Rat) = 0 from rfl]
  grind
theorem SeJ.rng {Q : Int} {p zs K j : Nat} {x T : Int} (h : SeJ Q p zs K j x T) (s : SeP Q p zs K) : x ≤ (p : Int) ∧ -((p : Int) + 1) ≤ x:=by
 have h1:=h.xe
 have h2:=s.kz
 have h3 : (K + 1 - j) * zs ≤ (K + 1) * zs:=Nat.mul_le_mul_right _ (by omega)
 rw [Nat.add_mul, Nat.one_mul] at h3
 have h4:=s.zp
 omega
theorem SeJ.size {Q : Int} {p zs K j : Nat} {x T : Int} (h : SeJ Q p zs K j x T) (s : SeP Q p zs K) : AbP T (p + 1):=by
 rcases h.tx with e | hx
 ·rw [e]; exact AbP.zero _
 ·have h1:=h.rng s
  obtain ⟨X, rfl⟩ : ∃ X : Nat, x = (X : Int):=⟨x.toNat, by omega⟩
  have h2:=Rat.le_trans h.up (hr_le s.q16.1 s.q16.2 _ _)
  have h3 : dq (2 ^ (X + 1)) (-(X : Int)) = 2:=by
   rw [Int.pow_succ, dq_scale, Rat.intCast_mul]
   have:=two_cast X
   have e : ((2 : Int) : Rat) = 2:=rfl
   rw [e]
   generalize (((2 : Int) ^ X : Int) : Rat) = P at *
   generalize dq 1 (-(X : Int)) = u at *
   grind
  rw [← h3] at h2
  exact (abp_of h.t0 ((dq_le_iff _ _ _).1 h2)).up (by omega)
structure SerOk (Q : Int) (p n : Nat) (T : Int) : Prop where
 t0 : 0 ≤ T
 up : dq T (-(p : Int)) ≤ hr (dq Q (-(p : Int))) n 0
 lo : hr (dq Q (-(p : Int))) n 0 - 2 * (n : Rat) * dq 1 (-(p : Int)) ≤ dq T (-(p : Int))
 sz : AbP T (p + 1)
 n4 : 4 * n ≤ p + 4
 pw : ∀ s : Rat, 0 ≤ s → s ≤ dq (Q + 1) (-(p : Int)) → rp s n ≤ dq 1 (-(p : Int))
theorem dshift_any (m e k : Int) (vx : Value) (w : World) (hx : IsD w vx m e) (lm : zl m ≤ 20000) (he : -1000000 ≤ e ∧ e ≤ 1000000) (hk : -65536 ≤ k ∧ k ≤ 65536) (hT : Tab w) :
  Calls Tryz.prog 160 #[vx, .int .i64 k] w (RetDE w (mkM m (e + k)) (mkE m (e + k)) (mkR m (e + k))):=by
 obtain ⟨A, c, rfl, hz, hn⟩:=hx.form
 have L0:=(Lq.mk0 w).z hz
 obtain ⟨s, hs⟩:=nm9 (e + k)
 have hw : IntKind.i64.wrap (e + k) = s:=by rw [← hs, IntKind.wrap_i64]; omega
 have hw0:=fun W => within_any k 65536 W (by omega) (by omega)
 have hin : (decide (-65536 ≤ k) && decide (k ≤ 65536)) = true:=by rw [decide_eq_true hk.1, decide_eq_true hk.2]; rfl
 rw [hin] at hw0
 have HW:=Hd9 hw0
 have HM0:=fun v W h (hW : Below w.heap.size w W) => dmake_any m s v W h (by omega) (hT.mono hW)
 rw [hs]
 generalize mkM m s = M at *
 generalize mkE m s = E at *
 generalize mkR m s = R at *
 have HM:=Hd9 HM0
 clear HM0 hw0 hin hs hx hz hn lm he hk hT
 go_enter Tryz.func160, Tryz.ntmps160
 go_wp2_with fail
 have L:=((L0.varD (w.heap.size) (by simp) (ng m) A (zl m) c e).varD (w.heap.size + 1) (by simp) false none 0 0 0)
 obtain ⟨c00,c01,c02⟩:=L.b0.a3
 obtain ⟨f00,f01,f02⟩:=L.b0.f3
 obtain ⟨c10,c11,c12⟩:=L.tl.b0.a3
 obtain ⟨f10,f11,f12⟩:=L.tl.b0.f3
 (try go_wp2_with fail)
 refine (HW.out _).mono ?_
 rintro e9 w' ⟨rfl, rfl⟩
 (try go_wp2_with fail)
 refine (HM.out _ _ (L.getZ (v:=.agg #[.bool (ng m), .slice A (zl m) c]) (by simp)) L.below).mono ?_
 rintro e w1 ⟨v8, rfl, id, be⟩
 clear c00 f00 c01 f01 c02 f02 c10 f10 c11 f11 c12 f12
 obtain ⟨A9, c9, rfl, _, in9⟩:=id.form
 replace L:=(L.step be).n in9
 clear be in9 id
 obtain ⟨c00,c01,c02⟩:=L.b0.a3
 obtain ⟨f00,f01,f02⟩:=L.b0.f3
 obtain ⟨c10,c11,c12⟩:=L.tl.b0.a3
 (try go_wp2_with fail)
 have LP:=L.putD (by omega) (by first | (simp; done) | (simp; omega)) (ng M) A9 (zl M) c9 (E)
 obtain ⟨k0,k1,k2⟩:=LP.b0.a3
 unfold put3 at k0 k1 k2
 exact bodyPost_ret (v:=.tuple #[.agg #[.bool (ng M), .slice A9 (zl M) c9, .int .i64 (E)], .int .i64 R]) (by simp [results, Tryz.results160, go_sem, k0, k1, k2]) rfl ⟨_, rfl, isD_n LP.hn, LP.below⟩
theorem own_lit0 (w : World) : Own (w.alloc (.cells #[] 140)) w.heap.size (.slice (some ⟨w.heap.size, 0, none⟩) 0 0) []:=
 ⟨World.ownsRow_lit w #[] 0 (Nat.le_refl _) (by unfold maxLen; omega) rfl, small_nil⟩
def RetNn (w : World) (x : Nat) (en : Ending) (w' : World) : Prop:=∃ v, en = .returned v ∧ IsN w' v x ∧ Below w.heap.size w w'
theorem clone_any (x : Nat) (vx : Value) (w : World) (hx : IsN w vx x) (hl : len x ≤ 1000000) :
    Calls Tryz.prog 266 #[vx] w (RetNn w x):=by
  obtain ⟨A, n, c, rfl, hs⟩:=hx
  have qT : ∀ (w : World) (a : Option Addr) (n c n' c' : Nat), (binOp .eql 22 (.slice a n c) (.slice none n' c')).run Tryz.prog w = .ok (.bool a.isNone) w:=fun w a n c n' c' => Lib.run_eql_slice_nil w _ _ a n c n' c' Tryz.underlying22
  have hn : len x = n:=by rw [← length_dig]; exact hs.len
  cases A with
  | none =>
    have hx0 : x = 0:=by
      rcases Nat.eq_zero_or_pos n with h0 | h0
      · rw [h0] at hn
        rcases Nat.eq_zero_or_pos x with h1 | h1
        · exact h1
        · have:=len_pos h1
          omega
      · obtain ⟨_, _, e, _⟩:=hs.place h0
        cases e
    subst hx0
    clear hs hn hl
    go_enter Tryz.func266, Tryz.ntmps266
    go_wp2_with fail
    go_ret
    exact ⟨_, rfl, IsN.zero _, Below.refl _ _⟩
  | some a =>
    have hsl : n ≤ 1000000:=by omega
    have HS:=Hd9 hs
    clear hs hn hl
    go_enter Tryz.func266, Tryz.ntmps266
    go_wp2_with (at_builtin; refine wp_appS _ rfl _ _ rfl w.heap.size _ [] rfl (own_lit0 w) (some a) n c (dig x) rfl (HS.out.mono ((Below.refl _ w).alloc (Nat.le_refl _) _)) (by simp; omega) (by simp) ?_)
    intro v2 w2 h2 g2
    have b2:=((Below.refl w.heap.size w).alloc (Nat.le_refl _) (.cells #[] 140)).grown g2 (by simp) (fun k hk => (own_lit0 w).blockGe k hk)
    have h2' : Own w2 w.heap.size v2 (dig x):=h2
    obtain ⟨A2, c2, e2, hs2, _⟩:=h2'.form
    clear h2 g2 h2'
    go_wp2_with fail
    go_ret
    exact ⟨v2, rfl, ⟨A2, _, c2, e2, hs2⟩, b2⟩

theorem icopied_any (m e : Int) (vx : Value) (w : World) (hx : IsD w vx m e) (lm : zl m ≤ 1000) :
  Calls Tryz.prog 249 #[vx] w (RetD8 w m e):=by
 obtain ⟨A, c, rfl, _, hn1⟩:=hx.form
 have L0:=(Lq.mk0 w).n hn1
 have HC:=Hd9 (fun v W h => clone_any m.natAbs v W h (show len m.natAbs ≤ 1000000 from Nat.le_trans lm (by omega)))
 clear hx hn1 lm
 go_enter Tryz.func249, Tryz.ntmps249
 go_wp2_with fail
 have L:=((L0.varD (w.heap.size) (by simp) (ng m) A (zl m) c e).varD (w.heap.size + 1) (by simp) false none 0 0 0)
 obtain ⟨c00,c01,c02⟩:=L.b0.a3
 obtain ⟨f00,f01,f02⟩:=L.b0.f3
 obtain ⟨c10,c11,c12⟩:=L.tl.b0.a3
 obtain ⟨f10,f11,f12⟩:=L.tl.b0.f3
 (try go_wp2_with fail)
 refine (HC.out _ _ (L.getN (v:=.slice A (zl m) c) (x:=(m).natAbs) (by simp))).mono ?_
 rintro e w1 ⟨v9, rfl, in9, be⟩
 clear c00 f00 c01 f01 c02 f02 c10 f10 c11 f11 c12 f12
 obtain ⟨A9, c9, e9⟩:=in9.form
 replace e9 : v9 = .slice A9 (zl m) c9:=e9
 subst e9
 replace L:=(L.step be).n in9
 clear be in9
 replace L:=L.swap
 obtain ⟨c00,c01,c02⟩:=L.b0.a3
 obtain ⟨f00,f01,f02⟩:=L.b0.f3
 obtain ⟨c10,c11,c12⟩:=L.tl.b0.a3
 obtain ⟨f10,f11,f12⟩:=L.tl.b0.f3
 have LS : Lq _ _ _ _ _ ((w.heap.size, 26, #[.bool (ng m), .slice A9 (zl m) c9, .int .i64 e]) :: _):=L.set (by omega) (by first | (simp; done) | (simp; omega)) 1 (.slice A9 (zl m) c9) (by intro x e; cases e)
 obtain ⟨s00,s01,s02⟩:=LS.b0.a3
 obtain ⟨r00,r01,r02⟩:=LS.tl.b0.f3
 (try go_wp2_with fail)
 clear s00 s01 s02 r00 r01 r02
 replace L:=LS.swap
 clear LS
 have LP:=L.putD (by omega) (by first | (simp; done) | (simp; omega)) (ng m) A9 (zl m) c9 (e)
 obtain ⟨k0,k1,k2⟩:=LP.b0.a3
 unfold put3 at k0 k1 k2
 exact bodyPost_ret (v:=.agg #[.bool (ng m), .slice A9 (zl m) c9, .int .i64 (e)]) (by simp [results, Tryz.results249, go_sem, k0, k1, k2]) rfl ⟨_, rfl, isD_n (LP.getN (by simp)), LP.below⟩
theorem ibetween_any (m e n f : Int) (vx vy : Value) (w : World) (hx : IsD w vx m e) (hy : IsD w vy n f) (lm : zl m ≤ 1000) (ln : zl n ≤ 1000) (he : -70000 ≤ e ∧ e ≤ 70000) (hf : -70000 ≤ f ∧ f ≤ 70000) :
  Calls Tryz.prog 223 #[vx, vy] w (RetI6 w m e n f):=by
 obtain ⟨A, c, rfl, _, hn1⟩:=hx.form
 obtain ⟨B, d, rfl, _, hn2⟩:=hy.form
 have L0:=((Lq.mk0 w).n hn2).n hn1
 have H1:=Hd9 (fun v W h => icopied_any m e v W h lm)
 have H2:=Hd9 (fun v W h => icopied_any n f v W h ln)
 clear hx hy hn1 hn2 lm ln he hf
 go_enter Tryz.func223, Tryz.ntmps223
 go_wp2_with fail
 have L:=(((L0.varD (w.heap.size) (by simp) (ng m) A (zl m) c e).varD (w.heap.size + 1) (by simp) (ng n) B (zl n) d f).varI (w.heap.size + 2) (by simp) false none 0 0 0 false none 0 0 0)
 replace L:=L.drew
 obtain ⟨c00,c01,c02,c03,c04,c05⟩:=L.b0.a6
 obtain ⟨f00,f01,f02,f03,f04,f05⟩:=L.b0.f6
 obtain ⟨c10,c11,c12⟩:=L.tl.b0.a3
 obtain ⟨c20,c21,c22⟩:=L.tl.tl.b0.a3
 go_region_held3 (fun w' => w'.cell? ⟨w.heap.size, 0, none⟩ = some (.bool (ng m)) ∧ w'.cell? ⟨w.heap.size, 1, none⟩ = some (.slice A (zl m) c) ∧ w'.cell? ⟨w.heap.size, 2, none⟩ = some (.int .i64 e) ∧ w'.cell? ⟨w.heap.size + 1, 0, none⟩ = some (.bool (ng n)) ∧ w'.cell? ⟨w.heap.size + 1, 1, none⟩ = some (.slice B (zl n) d) ∧ w'.cell? ⟨w.heap.size + 1, 2, none⟩ = some (.int .i64 f)) (first | (with_reducible exact ⟨L.tl.tl.b0.c30, L.tl.tl.b0.c31, L.tl.tl.b0.c32, L.tl.b0.c30, L.tl.b0.c31, L.tl.b0.c32⟩) | (have LP:=L.putI (by omega) (by first | (simp; done) | (simp; omega)) (ng m) A8 (zl m) c8 (e) (ng n) A9 (zl n) c9 (f); unfold put6 at LP; with_reducible exact ⟨LP.tl.tl.b0.c30, LP.tl.tl.b0.c31, LP.tl.tl.b0.c32, LP.tl.b0.c30, LP.tl.b0.c31, LP.tl.b0.c32⟩) | exact ⟨L.tl.tl.b0.c30, L.tl.tl.b0.c31, L.tl.tl.b0.c32, L.tl.b0.c30, L.tl.b0.c31, L.tl.b0.c32⟩) (first | (go_at_call 249; (with_reducible refine (H1.out _ _ ?_ ).mono ?_); (· (refine isD_n (L.getN ?_); (repeat (first | (with_reducible exact mS) | apply mT)))); rintro e wh ⟨vh, rfl, id, be⟩; obtain ⟨A8, c8, rfl, _, in9⟩:=id.form; replace L:=(L.step be).n in9; clear be id in9; (try (obtain ⟨x00,x01,x02,x03,x04,x05⟩:=L.b0.a6; obtain ⟨y00,y01,y02,y03,y04,y05⟩:=L.b0.f6))) | (go_at_call 249; (with_reducible refine (H2.out _ _ ?_ ).mono ?_); (· (refine isD_n (L.getN ?_); (repeat (first | (with_reducible exact mS) | apply mT)))); rintro e wh ⟨vh, rfl, id, be⟩; obtain ⟨A9, c9, rfl, _, in9⟩:=id.form; replace L:=(L.step be).n in9; clear be id in9; (try (obtain ⟨x00,x01,x02,x03,x04,x05⟩:=L.b0.a6; obtain ⟨y00,y01,y02,y03,y04,y05⟩:=L.b0.f6))))
 clear c00 f00 c01 f01 c02 f02 c03 f03 c04 f04 c05 f05 c10 c11 c12 c20 c21 c22
 go_wp2_with fail
 have LP:=L.putI (by omega) (by first | (simp; done) | (simp; omega)) (ng m) A8 (zl m) c8 e (ng n) A9 (zl n) c9 f
 obtain ⟨k0,k1,k2,k3,k4,k5⟩:=LP.b0.a6
 unfold put6 at k0 k1 k2 k3 k4 k5
 exact bodyPost_ret (v:=.agg #[.bool (ng m), .slice A8 (zl m) c8, .int .i64 e, .bool (ng n), .slice A9 (zl n) c9, .int .i64 f]) (by simp [results, Tryz.results223, go_sem, k0, k1, k2, k3, k4, k5]) rfl ⟨_, rfl, isI_n (LP.getN (by simp)) (LP.getN (by simp)), LP.below⟩
theorem i10point_any (m e : Int) (vx : Value) (w : World) (hx : IsD w vx m e) (lm : zl m ≤ 1000) (he : -20000 ≤ e ∧ e ≤ 20000) (_hv : Dv m e) :
  Calls Tryz.prog 171 #[vx] w (RetI6 w m e m e):=by
 obtain ⟨A, c, rfl, _, hn1⟩:=hx.form
 have L0:=(Lq.mk0 w).n hn1
 have H1:=Hd9 (fun v u W k1 k2 => ibetween_any m e m e v u W k1 k2 lm lm (by omega) (by omega))
 clear hx hn1 lm he
 go_enter Tryz.func171, Tryz.ntmps171
 go_wp2_with fail
 have L:=((L0.varD (w.heap.size) (by simp) (ng m) A (zl m) c e).varI (w.heap.size + 1) (by simp) false none 0 0 0 false none 0 0 0)
 obtain ⟨c00,c01,c02,c03,c04,c05⟩:=L.b0.a6
 obtain ⟨f00,f01,f02,f03,f04,f05⟩:=L.b0.f6
 obtain ⟨c10,c11,c12⟩:=L.tl.b0.a3
 (try go_wp2_with fail)
 refine (H1.out _ _ _ (isD_n (m:=m) (e:=e) (s:=.slice A (zl m) c) (L.getN (v:=.slice A (zl m) c) (x:=(m).natAbs) (by simp))) (isD_n (m:=m) (e:=e) (s:=.slice A (zl m) c) (L.getN (v:=.slice A (zl m) c) (x:=(m).natAbs) (by simp)))).mono ?_
 rintro e w1 ⟨v8, rfl, ii, be⟩
 clear c00 f00 c01 f01 c02 f02 c03 f03 c04 f04 c05 f05 c10 c11 c12
 obtain ⟨A8, c8, B8, d8, rfl, ia, ib⟩:=ii.form
 replace L:=((L.step be).n ib).n ia
 clear be ii ia ib
 obtain ⟨c00,c01,c02,c03,c04,c05⟩:=L.b0.a6
 obtain ⟨f00,f01,f02,f03,f04,f05⟩:=L.b0.f6
 (try go_wp2_with fail)
 have LP:=L.putI (by omega) (by first | (simp; done) | (simp; omega)) (ng m) A8 (zl m) c8 e (ng m) B8 (zl m) d8 e
 obtain ⟨k0,k1,k2,k3,k4,k5⟩:=LP.b0.a6
 unfold put6 at k0 k1 k2 k3 k4 k5
 exact bodyPost_ret (v:=.agg #[.bool (ng m), .slice A8 (zl m) c8, .int .i64 e, .bool (ng m), .slice B8 (zl m) d8, .int .i64 e]) (by simp [results, Tryz.results171, go_sem, k0, k1, k2, k3, k4, k5]) rfl ⟨_, rfl, isI_n (LP.getN (by simp)) (LP.getN (by simp)), LP.below⟩
theorem i10make_any (m e n f : Int) (vx vy : Value) (w : World) (hx : IsD w vx m e) (hy : IsD w vy n f) (lm : zl m ≤ 1000) (ln : zl n ≤ 1000) (he : -20000 ≤ e ∧ e ≤ 20000) (hf : -20000 ≤ f ∧ f ≤ 20000) (_hv : Dv m e) (_hv2 : Dv n f) :
  Calls Tryz.prog 240 #[vx, vy] w (RetMk w m e n f):=by
 obtain ⟨A, c, rfl, _, hn1⟩:=hx.form
 obtain ⟨B, d, rfl, _, hn2⟩:=hy.form
 have L0:=((Lq.mk0 w).n hn2).n hn1
 unfold RetMk
 have H10:=fun v u W k1 k2 => iatmost_any m e n f v u W k1 k2 (by omega) (by omega) (by omega) (by omega)
 obtain ⟨b, hb⟩:=nm9 (decide (dcm m e n f ≤ 0))
 rw [hb] at H10
 have H1:=Hd9 H10
 clear H10
 have HB:=Hd9 (fun v u W k1 k2 => ibetween_any m e n f v u W k1 k2 lm ln (by omega) (by omega))
 clear hx hy hn1 hn2 lm ln he hf
 cases b
 ·rw [if_neg (of_decide_eq_false hb)]
  clear hb HB
  go_enter Tryz.func240, Tryz.ntmps240
  go_wp2_with fail
  have L:=(((L0.varD (w.heap.size) (by simp) (ng m) A (zl m) c e).varD (w.heap.size + 1) (by simp) (ng n) B (zl n) d f).varI (w.heap.size + 2) (by simp) false none 0 0 0 false none 0 0 0)
  obtain ⟨c00,c01,c02,c03,c04,c05⟩:=L.b0.a6
  obtain ⟨f00,f01,f02,f03,f04,f05⟩:=L.b0.f6
  obtain ⟨c10,c11,c12⟩:=L.tl.b0.a3
  obtain ⟨c20,c21,c22⟩:=L.tl.tl.b0.a3
  (try go_wp2_with fail)
  refine (H1.out _ _ _ (isD_n (m:=m) (e:=e) (s:=.slice A (zl m) c) (L.getN (v:=.slice A (zl m) c) (x:=(m).natAbs) (by simp))) (isD_n (m:=n) (e:=f) (s:=.slice B (zl n) d) (L.getN (v:=.slice B (zl n) d) (x:=(n).natAbs) (by simp)))).mono ?_
  rintro e w1 ⟨rfl, be⟩
  clear c00 f00 c01 f01 c02 f02 c03 f03 c04 f04 c05 f05 c10 c11 c12 c20 c21 c22
  replace L:=L.step be
  clear be
  obtain ⟨c00,c01,c02,c03,c04,c05⟩:=L.b0.a6
  obtain ⟨f00,f01,f02,f03,f04,f05⟩:=L.b0.f6
  obtain ⟨c10,c11,c12⟩:=L.tl.b0.a3
  obtain ⟨c20,c21,c22⟩:=L.tl.tl.b0.a3
  (try go_wp2_with fail)
  have LP:=L.putI (by omega) (by first | (simp; done) | (simp; omega)) false none 0 0 0 false none 0 0 0
  obtain ⟨k0,k1,k2,k3,k4,k5⟩:=LP.b0.a6
  unfold put6 at k0 k1 k2 k3 k4 k5
  exact bodyPost_ret (v:=.tuple #[.agg #[.bool false, .slice none 0 0, .int .i64 0, .bool false, .slice none 0 0, .int .i64 0], .int .i64 1]) (by simp [results, Tryz.results240, go_sem, k0, k1, k2, k3, k4, k5]) rfl ⟨_, rfl, isI_zero _, LP.below⟩
 ·rw [if_pos (of_decide_eq_true hb)]
  clear hb
  go_enter Tryz.func240, Tryz.ntmps240
  go_wp2_with fail
  have L:=(((L0.varD (w.heap.size) (by simp) (ng m) A (zl m) c e).varD (w.heap.size + 1) (by simp) (ng n) B (zl n) d f).varI (w.heap.size + 2) (by simp) false none 0 0 0 false none 0 0 0)
  obtain ⟨c00,c01,c02,c03,c04,c05⟩:=L.b0.a6
  obtain ⟨f00,f01,f02,f03,f04,f05⟩:=L.b0.f6
  obtain ⟨c10,c11,c12⟩:=L.tl.b0.a3
  obtain ⟨c20,c21,c22⟩:=L.tl.tl.b0.a3
  (try go_wp2_with fail)
  refine (H1.out _ _ _ (isD_n (m:=m) (e:=e) (s:=.slice A (zl m) c) (L.getN (v:=.slice A (zl m) c) (x:=(m).natAbs) (by simp))) (isD_n (m:=n) (e:=f) (s:=.slice B (zl n) d) (L.getN (v:=.slice B (zl n) d) (x:=(n).natAbs) (by simp)))).mono ?_
  rintro e w1 ⟨rfl, be⟩
  clear c00 f00 c01 f01 c02 f02 c03 f03 c04 f04 c05 f05 c10 c11 c12 c20 c21 c22
  replace L:=L.step be
  clear be
  obtain ⟨c00,c01,c02,c03,c04,c05⟩:=L.b0.a6
  obtain ⟨f00,f01,f02,f03,f04,f05⟩:=L.b0.f6
  obtain ⟨c10,c11,c12⟩:=L.tl.b0.a3
  obtain ⟨c20,c21,c22⟩:=L.tl.tl.b0.a3
  (try go_wp2_with fail)
  refine (HB.out _ _ _ (isD_n (m:=m) (e:=e) (s:=.slice A (zl m) c) (L.getN (v:=.slice A (zl m) c) (x:=(m).natAbs) (by simp))) (isD_n (m:=n) (e:=f) (s:=.slice B (zl n) d) (L.getN (v:=.slice B (zl n) d) (x:=(n).natAbs) (by simp)))).mono ?_
  rintro e w2 ⟨v8, rfl, ii, be⟩
  clear c00 f00 c01 f01 c02 f02 c03 f03 c04 f04 c05 f05 c10 c11 c12 c20 c21 c22
  obtain ⟨A8, c8, B8, d8, rfl, ia, ib⟩:=ii.form
  replace L:=((L.step be).n ib).n ia
  clear be ii ia ib
  obtain ⟨c00,c01,c02,c03,c04,c05⟩:=L.b0.a6
  obtain ⟨f00,f01,f02,f03,f04,f05⟩:=L.b0.f6
  (try go_wp2_with fail)
  have LP:=L.putI (by omega) (by first | (simp; done) | (simp; omega)) (ng m) A8 (zl m) c8 e (ng n) B8 (zl n) d8 f
  obtain ⟨k0,k1,k2,k3,k4,k5⟩:=LP.b0.a6
  unfold put6 at k0 k1 k2 k3 k4 k5
  exact bodyPost_ret (v:=.tuple #[.agg #[.bool (ng m), .slice A8 (zl m) c8, .int .i64 e, .bool (ng n), .slice B8 (zl n) d8, .int .i64 f], .int .i64 0]) (by simp [results, Tryz.results240, go_sem, k0, k1, k2, k3, k4, k5]) rfl ⟨_, rfl, isI_n (LP.getN (by simp)) (LP.getN (by simp)), LP.below⟩
theorem i10hull_any (m e n f m2 e2 n2 f2 : Int) (vx vy : Value) (w : World) (hx : IsI w vx m e n f) (hy : IsI w vy m2 e2 n2 f2) (lm : zl m ≤ 1000) (ln : zl n ≤ 1000) (lm2 : zl m2 ≤ 1000) (ln2 : zl n2 ≤ 1000) (he : -20000 ≤ e ∧ e ≤ 20000) (hf : -20000 ≤ f ∧ f ≤ 20000) (he2 : -20000 ≤ e2 ∧ e2 ≤ 20000) (hf2 : -20000 ≤ f2 ∧ f2 ≤ 20000) (hv1 : Dv m e) (hv2 : Dv n f) (hv3 : Dv m2 e2) (hv4 : Dv n2 f2) :
  Calls Tryz.prog 174 #[vx, vy] w (RetI6 w (lstD m e m2 e2).1 (lstD m e m2 e2).2 (gstD n f n2 f2).1 (gstD n f n2 f2).2):=by
 obtain ⟨A, c, B, d, rfl, hn1, hn2⟩:=hx.form
 obtain ⟨A2, k2, B2, d2, rfl, hn3, hn4⟩:=hy.form
 have L0:=((((Lq.mk0 w).n hn4).n hn3).n hn2).n hn1
 have h1:=fun v u W k1 k2 => ilesser_any m e m2 e2 v u W k1 k2 lm lm2 he he2
 have h2:=fun v u W k1 k2 => igreater_any n f n2 f2 v u W k1 k2 ln ln2 hf hf2 hv2 hv4
 have z1:=lstD_zl lm lm2 (e:=e) (f:=e2)
 have z2:=gstD_zl ln ln2 (e:=f) (f:=f2)
 have i1:=lstD_in he he2 (m:=m) (n:=m2)
 have i2:=gstD_in hf hf2 (m:=n) (n:=n2)
 obtain ⟨um, ue, hu⟩ : ∃ x y, lstD m e m2 e2 = (x, y):=⟨_, _, rfl⟩
 obtain ⟨zm, ze, hz⟩ : ∃ x y, gstD n f n2 f2 = (x, y):=⟨_, _, rfl⟩
 rw [hu] at h1 z1 i1 ⊢
 rw [hz] at h2 z2 i2 ⊢
 simp only at z1 z2 i1 i2
 have HB:=Hd9 (fun v u W k1 k2 => ibetween_any um ue zm ze v u W k1 k2 z1 z2 (by omega) (by omega))
 have H1:=Hd9 h1
 have H2:=Hd9 h2
 dsimp only
 clear h1 h2 hu hz hx hy hn1 hn2 hn3 hn4 lm ln lm2 ln2 he hf he2 hf2 hv1 hv2 hv3 hv4 z1 z2 i1 i2
 go_enter Tryz.func174, Tryz.ntmps174
 go_wp2_with fail
 have L:=(((L0.varI (w.heap.size) (by simp) (ng m) A (zl m) c e (ng n) B (zl n) d f).varI (w.heap.size + 1) (by simp) (ng m2) A2 (zl m2) k2 e2 (ng n2) B2 (zl n2) d2 f2).varI (w.heap.size + 2) (by simp) false none 0 0 0 false none 0 0 0)
 replace L:=L.drew
 obtain ⟨c00,c01,c02,c03,c04,c05⟩:=L.b0.a6
 obtain ⟨f00,f01,f02,f03,f04,f05⟩:=L.b0.f6
 obtain ⟨c10,c11,c12,c13,c14,c15⟩:=L.tl.b0.a6
 obtain ⟨c20,c21,c22,c23,c24,c25⟩:=L.tl.tl.b0.a6
 go_region_held3 (fun w' => w'.cell? ⟨w.heap.size, 0, none⟩ = some (.bool (ng m)) ∧ w'.cell? ⟨w.heap.size, 1, none⟩ = some (.slice A (zl m) c) ∧ w'.cell? ⟨w.heap.size, 2, none⟩ = some (.int .i64 e) ∧ w'.cell? ⟨w.heap.size, 3, none⟩ = some (.bool (ng n)) ∧ w'.cell? ⟨w.heap.size, 4, none⟩ = some (.slice B (zl n) d) ∧ w'.cell? ⟨w.heap.size, 5, none⟩ = some (.int .i64 f) ∧ w'.cell? ⟨w.heap.size + 1, 0, none⟩ = some (.bool (ng m2)) ∧ w'.cell? ⟨w.heap.size + 1, 1, none⟩ = some (.slice A2 (zl m2) k2) ∧ w'.cell? ⟨w.heap.size + 1, 2, none⟩ = some (.int .i64 e2) ∧ w'.cell? ⟨w.heap.size + 1, 3, none⟩ = some (.bool (ng n2)) ∧ w'.cell? ⟨w.heap.size + 1, 4, none⟩ = some (.slice B2 (zl n2) d2) ∧ w'.cell? ⟨w.heap.size + 1, 5, none⟩ = some (.int .i64 f2)) (first | (with_reducible exact ⟨L.tl.tl.b0.c60, L.tl.tl.b0.c61, L.tl.tl.b0.c62, L.tl.tl.b0.c63, L.tl.tl.b0.c64, L.tl.tl.b0.c65, L.tl.b0.c60, L.tl.b0.c61, L.tl.b0.c62, L.tl.b0.c63, L.tl.b0.c64, L.tl.b0.c65⟩) | (have LP:=L.putI (by omega) (by first | (simp; done) | (simp; omega)) (ng um) A7 (zl um) c7 (ue) (ng zm) B7 (zl zm) d7 (ze); unfold put6 at LP; with_reducible exact ⟨LP.tl.tl.b0.c60, LP.tl.tl.b0.c61, LP.tl.tl.b0.c62, LP.tl.tl.b0.c63, LP.tl.tl.b0.c64, LP.tl.tl.b0.c65, LP.tl.b0.c60, LP.tl.b0.c61, LP.tl.b0.c62, LP.tl.b0.c63, LP.tl.b0.c64, LP.tl.b0.c65⟩) | exact ⟨L.tl.tl.b0.c60, L.tl.tl.b0.c61, L.tl.tl.b0.c62, L.tl.tl.b0.c63, L.tl.tl.b0.c64, L.tl.tl.b0.c65, L.tl.b0.c60, L.tl.b0.c61, L.tl.b0.c62, L.tl.b0.c63, L.tl.b0.c64, L.tl.b0.c65⟩) (first | (go_at_call 225; (with_reducible refine (H1.out _ _ _ ?_ ?_ ).mono ?_); (· (refine isD_n (L.getN ?_); (repeat (first | (with_reducible exact mS) | apply mT)))); (· (refine isD_n (L.getN ?_); (repeat (first | (with_reducible exact mS) | apply mT)))); rintro e wh ⟨vh, rfl, id, be⟩; obtain ⟨A8, c8, rfl, _, in9⟩:=id.form; replace L:=(L.step be).n in9; clear be id in9; (try (obtain ⟨x00,x01,x02,x03,x04,x05⟩:=L.b0.a6; obtain ⟨y00,y01,y02,y03,y04,y05⟩:=L.b0.f6))) | (go_at_call 226; (with_reducible refine (H2.out _ _ _ ?_ ?_ ).mono ?_); (· (refine isD_n (L.getN ?_); (repeat (first | (with_reducible exact mS) | apply mT)))); (· (refine isD_n (L.getN ?_); (repeat (first | (with_reducible exact mS) | apply mT)))); rintro e wh ⟨vh, rfl, id, be⟩; obtain ⟨A9, c9, rfl, _, in9⟩:=id.form; replace L:=(L.step be).n in9; clear be id in9; (try (obtain ⟨x00,x01,x02,x03,x04,x05⟩:=L.b0.a6; obtain ⟨y00,y01,y02,y03,y04,y05⟩:=L.b0.f6))) | (go_at_call 223; (with_reducible refine (HB.out _ _ _ ?_ ?_ ).mono ?_); (· (refine isD_n (L.getN ?_); (repeat (first | (with_reducible exact mS) | apply mT)))); (· (refine isD_n (L.getN ?_); (repeat (first | (with_reducible exact mS) | apply mT)))); rintro e wh ⟨vh, rfl, ii, be⟩; obtain ⟨A7, c7, B7, d7, rfl, ia, ib⟩:=ii.form; replace L:=((L.step be).n ib).n ia; clear be ii ia ib; (try (obtain ⟨x00,x01,x02,x03,x04,x05⟩:=L.b0.a6; obtain ⟨y00,y01,y02,y03,y04,y05⟩:=L.b0.f6))))
 clear c00 f00 c01 f01 c02 f02 c03 f03 c04 f04 c05 f05 c10 c11 c12 c13 c14 c15 c20 c21 c22 c23 c24 c25
 go_wp2_with fail
 have LP:=L.putI (by omega) (by first | (simp; done) | (simp; omega)) (ng um) A7 (zl um) c7 ue (ng zm) B7 (zl zm) d7 ze
 obtain ⟨k0,k1,k2,k3,k4,k5⟩:=LP.b0.a6
 unfold put6 at k0 k1 k2 k3 k4 k5
 exact bodyPost_ret (v:=.agg #[.bool (ng um), .slice A7 (zl um) c7, .int .i64 ue, .bool (ng zm), .slice B7 (zl zm) d7, .int .i64 ze]) (by simp [results, Tryz.results174, go_sem, k0, k1, k2, k3, k4, k5]) rfl ⟨_, rfl, isI_n (LP.getN (by simp)) (LP.getN (by simp)), LP.below⟩

theorem adiv_pos (m e n f m2 e2 n2 f2 k : Int) (vx vy : Value) (w : World) (hx : IsI w vx m e n f) (hy : IsI w vy m2 e2 n2 f2) (lm : zl m ≤ 140) (ln : zl n ≤ 140) (lm2 : zl m2 ≤ 140) (ln2 : zl n2 ≤ 140) (he : -4500 ≤ e ∧ e ≤ 4500) (hf : -4500 ≤ f ∧ f ≤ 4500) (he2 : -4500 ≤ e2 ∧ e2 ≤ 4500) (hf2 : -4500 ≤ f2 ∧ f2 ≤ 4500) (hd1 : dcm m e n f ≤ 0) (hd2 : dcm m2 e2 n2 f2 ≤ 0) (hk1 : -9223372036854775808 ≤ k) (hk2 : k ≤ 9223372036854775807) (hT : Tab w) (hw : workB k = true) (hxy : cmpI m2 0 = cmpI n2 0) (hx0 : ¬ cmpI m2 0 = 0) (hx1 : ¬ cmpI m2 0 < 0) :
  Calls Tryz.prog 44 #[vx, vy, .int .i64 k] w (RetEn w (min4 (dq m e / dq m2 e2) (dq m e / dq n2 f2) (dq n f / dq m2 e2) (dq n f / dq n2 f2)) (max4 (dq m e / dq m2 e2) (dq m e / dq n2 f2) (dq n f / dq m2 e2) (dq n f / dq n2 f2)) k):=by
 obtain ⟨A, c, B, d, rfl, hn1, hn2⟩:=hx.form
 obtain ⟨A2, k2, B2, d2, rfl, hn3, hn4⟩:=hy.form
 have L0:=((((Lq.mk0 w).n hn4).n hn3).n hn2).n hn1
 have S0:=fun v W h => i10sign_any m2 e2 n2 f2 v W h (by omega) (by omega) (by omega) (by omega)
 have HW0:=fun W => aperm_any k W
 unfold RetSg at S0
 rw [hw] at HW0
 have HW:=Hd9 HW0
 clear HW0
 obtain ⟨ps1, ps2⟩:=(cmp_signs hxy).2 hx1 hx0
 obtain ⟨x, hx9⟩:=nm9 (cmpI m2 0)
 rw [if_pos hxy, decide_eq_true hxy] at S0
 rw [hx9] at S0 hx0 hx1
 have S:=Hd9 S0
 clear S0 hx9 hxy
 have b1 : (x == 0) = false:=by simpa using hx0
 obtain ⟨lo, hlo⟩:=nm9 (min4 (dq m e / dq m2 e2) (dq m e / dq n2 f2) (dq n f / dq m2 e2) (dq n f / dq n2 f2))
 obtain ⟨hi, hhi⟩:=nm9 (max4 (dq m e / dq m2 e2) (dq m e / dq n2 f2) (dq n f / dq m2 e2) (dq n f / dq n2 f2))
 rw [hlo, hhi]
 have b2 : decide (x < 0) = false:=decide_eq_false hx1
 have fl : min4 (dq m e / dq m2 e2) (dq m e / dq n2 f2) (dq n f / dq m2 e2) (dq n f / dq n2 f2) = lo:=hlo
 have fh : max4 (dq m e / dq m2 e2) (dq m e / dq n2 f2) (dq n f / dq m2 e2) (dq n f / dq n2 f2) = hi:=hhi
 have bs1:=fun v u z W h1 h2 h3 => absign_any m e m2 e2 n2 f2 v u z W h1 h2 h3 (by omega)
 have v1:=quo_lo hd1 hd2 ps1 ps2
 obtain ⟨p1, hp1⟩:=nm9 ((if m < 0 then m2 else n2))
 obtain ⟨s1, hs1⟩:=nm9 ((if m < 0 then e2 else f2))
 have pb1 : zl p1 ≤ 140 ∧ (-4500 ≤ s1 ∧ s1 ≤ 4500) ∧ p1 ≠ 0:=by rw [← hp1, ← hs1]; split <;> refine ⟨by omega, by omega, by omega⟩
 rw [hp1, hs1] at bs1 v1
 have qu1:=fun v u W h1 h2 => aquot_any m e p1 s1 v u W h1 h2 (by omega) (by omega) (by omega) (by omega) pb1.2.2
 have qs1:=qt_small (m:=m) (e:=e) (n:=p1) (f:=s1) pb1.2.2 (by omega) (by omega) (by omega) (by omega)
 have qp1:=qt_pos m e p1 s1
 obtain ⟨qa1, ha1⟩:=nm9 (qtA m e p1 s1)
 obtain ⟨qd1, hdd1⟩:=nm9 (qtD m e p1 s1)
 rw [ha1, hdd1] at v1 qu1 qs1
 rw [hdd1] at qp1
 rw [fl] at v1
 have bs2:=fun v u z W h1 h2 h3 => absign_any n f n2 f2 m2 e2 v u z W h1 h2 h3 (by omega)
 have v2:=quo_hi hd1 hd2 ps1 ps2
 obtain ⟨p2, hp2⟩:=nm9 ((if n < 0 then n2 else m2))
 obtain ⟨s2, hs2⟩:=nm9 ((if n < 0 then f2 else e2))
 have pb2 : zl p2 ≤ 140 ∧ (-4500 ≤ s2 ∧ s2 ≤ 4500) ∧ p2 ≠ 0:=by rw [← hp2, ← hs2]; split <;> refine ⟨by omega, by omega, by omega⟩
 rw [hp2, hs2] at bs2 v2
 have qu2:=fun v u W h1 h2 => aquot_any n f p2 s2 v u W h1 h2 (by omega) (by omega) (by omega) (by omega) pb2.2.2
 have qs2:=qt_small (m:=n) (e:=f) (n:=p2) (f:=s2) pb2.2.2 (by omega) (by omega) (by omega) (by omega)
 have qp2:=qt_pos n f p2 s2
 obtain ⟨qa2, ha2⟩:=nm9 (qtA n f p2 s2)
 obtain ⟨qd2, hdd2⟩:=nm9 (qtD n f p2 s2)
 rw [ha2, hdd2] at v2 qu2 qs2
 rw [hdd2] at qp2
 rw [fh] at v2
 have en:=fun v u W h1 h2 (hW : Below w.heap.size w W) => aenclR_any qa1 qd1 qa2 qd2 k v u W h1 h2 qs1.1 qs1.2 qp1 qs2.1 qs2.2 qp2 hw (hT.mono hW)
 rw [v1, v2] at en
 have BS1:=Hd9 bs1
 have BS2:=Hd9 bs2
 have QU1:=Hd9 qu1
 have QU2:=Hd9 qu2
 have EN:=Hd9 en
 clear bs1 bs2 qu1 qu2 en v1 v2 hp1 hp2 hs1 hs2 pb1 pb2 qs1 qs2 qp1 qp2 ha1 ha2 hdd1 hdd2
 clear fl fh hlo hhi hw hx0 hx1 ps1 ps2 hx hy hn1 hn2 hn3 hn4 lm ln lm2 ln2 he hf he2 hf2 hd1 hd2 hk1 hk2 hT
 go_enter Tryz.func44, Tryz.ntmps44
 go_wp2_with fail
 have L:=(((L0.varI (w.heap.size) (by simp) (ng m) A (zl m) c e (ng n) B (zl n) d f).varI (w.heap.size + 1) (by simp) (ng m2) A2 (zl m2) k2 e2 (ng n2) B2 (zl n2) d2 f2).varI (w.heap.size + 2) (by simp) false none 0 0 0 false none 0 0 0)
 obtain ⟨gr, hgr⟩:=nm9 (w.heap.size + 1 + 1)
 have hgr2 : w.heap.size + 2 = gr:=hgr
 rw [hgr2] at L
 rw [hgr]
 have hgr3 : w.heap.size + 1 < gr:=by omega
 clear hgr hgr2
 obtain ⟨c00,c01,c02,c03,c04,c05⟩:=L.b0.a6
 obtain ⟨f00,f01,f02,f03,f04,f05⟩:=L.b0.f6
 obtain ⟨c10,c11,c12,c13,c14,c15⟩:=L.tl.b0.a6
 (try go_wp2_with fail)
 refine (S.out _ _ (isI_n (m:=m2) (e:=e2) (n:=n2) (f:=f2) (L.getN (v:=.slice A2 (zl m2) k2) (x:=(m2).natAbs) (by simp)) (L.getN (v:=.slice B2 (zl n2) d2) (x:=(n2).natAbs) (by simp)))).mono ?_
 rintro e w1 ⟨rfl, be⟩
 clear c00 f00 c01 f01 c02 f02 c03 f03 c04 f04 c05 f05 c10 c11 c12 c13 c14 c15
 replace L:=L.step be
 clear be
 obtain ⟨c00,c01,c02,c03,c04,c05⟩:=L.b0.a6
 obtain ⟨f00,f01,f02,f03,f04,f05⟩:=L.b0.f6
 (try go_wp2_with fail)
 refine (HW.out _).mono ?_
 rintro e9 w' ⟨rfl, rfl⟩
 (try go_wp2_with fail)
 clear c00 f00 c01 f01 c02 f02 c03 f03 c04 f04 c05 f05
 have Q0:=Hd9 (fun Z (hZ : Below w1.heap.size w1 Z) => (L.tl.tl.b0.mono hZ).c60)
 have Q1:=Hd9 (fun Z (hZ : Below w1.heap.size w1 Z) => (L.tl.tl.b0.mono hZ).c61)
 have Q2:=Hd9 (fun Z (hZ : Below w1.heap.size w1 Z) => (L.tl.tl.b0.mono hZ).c62)
 have Q3:=Hd9 (fun Z (hZ : Below w1.heap.size w1 Z) => (L.tl.tl.b0.mono hZ).c63)
 have Q4:=Hd9 (fun Z (hZ : Below w1.heap.size w1 Z) => (L.tl.tl.b0.mono hZ).c64)
 have Q5:=Hd9 (fun Z (hZ : Below w1.heap.size w1 Z) => (L.tl.tl.b0.mono hZ).c65)
 have Q6:=Hd9 (fun Z (hZ : Below w1.heap.size w1 Z) => (L.tl.b0.mono hZ).c60)
 have Q7:=Hd9 (fun Z (hZ : Below w1.heap.size w1 Z) => (L.tl.b0.mono hZ).c61)
 have Q8:=Hd9 (fun Z (hZ : Below w1.heap.size w1 Z) => (L.tl.b0.mono hZ).c62)
 have Q9:=Hd9 (fun Z (hZ : Below w1.heap.size w1 Z) => (L.tl.b0.mono hZ).c63)
 have Q10:=Hd9 (fun Z (hZ : Below w1.heap.size w1 Z) => (L.tl.b0.mono hZ).c64)
 have Q11:=Hd9 (fun Z (hZ : Below w1.heap.size w1 Z) => (L.tl.b0.mono hZ).c65)
 have hb1:=L.tl.tl.b0.lt
 have hb2:=L.tl.b0.lt
 have D0 : Dq w1 w1 [(.slice A (zl m) c, m.natAbs), (.slice B (zl n) d, n.natAbs), (.slice A2 (zl m2) k2, m2.natAbs), (.slice B2 (zl n2) d2, n2.natAbs)] [] [] []:=⟨((((Lq.mk0 w1).n (L.getN (v:=.slice B2 (zl n2) d2) (x:=(n2).natAbs) (by simp))).n (L.getN (v:=.slice A2 (zl m2) k2) (x:=(m2).natAbs) (by simp))).n (L.getN (v:=.slice B (zl n) d) (x:=(n).natAbs) (by simp))).n (L.getN (v:=.slice A (zl m) c) (x:=(m).natAbs) (by simp)), List.nodup_nil, fun p hp => by cases hp⟩
 have D:=D0.drew
 have LL:=Hd9 L
 clear L
 obtain ⟨K, hK⟩:=nm9 (w1.heap.size)
 have hz0 : K ≤ w1.heap.size:=by omega
 have hc1 : w.heap.size < K:=by omega
 have hc2 : w.heap.size + 1 < K:=by omega
 have hmd : w1.drew.heap.size = K:=hK
 go_cut [10] from 40 to 50 (fun s5 wx => Made1Q w1 qa1 qd1 s5 wx)
 case first =>
  go_region_held3 (fun w' => w'.cell? ⟨w.heap.size, 0, none⟩ = some (.bool (ng m)) ∧ w'.cell? ⟨w.heap.size, 1, none⟩ = some (.slice A (zl m) c) ∧ w'.cell? ⟨w.heap.size, 2, none⟩ = some (.int .i64 e) ∧ w'.cell? ⟨w.heap.size, 3, none⟩ = some (.bool (ng n)) ∧ w'.cell? ⟨w.heap.size, 4, none⟩ = some (.slice B (zl n) d) ∧ w'.cell? ⟨w.heap.size, 5, none⟩ = some (.int .i64 f) ∧ w'.cell? ⟨w.heap.size + 1, 0, none⟩ = some (.bool (ng m2)) ∧ w'.cell? ⟨w.heap.size + 1, 1, none⟩ = some (.slice A2 (zl m2) k2) ∧ w'.cell? ⟨w.heap.size + 1, 2, none⟩ = some (.int .i64 e2) ∧ w'.cell? ⟨w.heap.size + 1, 3, none⟩ = some (.bool (ng n2)) ∧ w'.cell? ⟨w.heap.size + 1, 4, none⟩ = some (.slice B2 (zl n2) d2) ∧ w'.cell? ⟨w.heap.size + 1, 5, none⟩ = some (.int .i64 f2)) (((try dsimp only); refine ⟨?_, ?_, ?_, ?_, ?_, ?_, ?_, ?_, ?_, ?_, ?_, ?_⟩ <;> (repeat (first | (with_reducible exact Q0.out _ D.lq.below) | (with_reducible exact Q0.out _ D0.lq.below) | (with_reducible exact Q1.out _ D.lq.below) | (with_reducible exact Q1.out _ D0.lq.below) | (with_reducible exact Q2.out _ D.lq.below) | (with_reducible exact Q2.out _ D0.lq.below) | (with_reducible exact Q3.out _ D.lq.below) | (with_reducible exact Q3.out _ D0.lq.below) | (with_reducible exact Q4.out _ D.lq.below) | (with_reducible exact Q4.out _ D0.lq.below) | (with_reducible exact Q5.out _ D.lq.below) | (with_reducible exact Q5.out _ D0.lq.below) | (with_reducible exact Q6.out _ D.lq.below) | (with_reducible exact Q6.out _ D0.lq.below) | (with_reducible exact Q7.out _ D.lq.below) | (with_reducible exact Q7.out _ D0.lq.below) | (with_reducible exact Q8.out _ D.lq.below) | (with_reducible exact Q8.out _ D0.lq.below) | (with_reducible exact Q9.out _ D.lq.below) | (with_reducible exact Q9.out _ D0.lq.below) | (with_reducible exact Q10.out _ D.lq.below) | (with_reducible exact Q10.out _ D0.lq.below) | (with_reducible exact Q11.out _ D.lq.below) | (with_reducible exact Q11.out _ D0.lq.below) | (with_reducible refine c_alloc _ ?_) | (with_reducible refine c_drew ?_) | (with_reducible refine c_set ?_ (by assumption) ?_) | omega)))) (first | (go_at_call 99; (with_reducible refine (BS1.out _ _ _ _ ?_ ?_ ?_).mono ?_); (· (first | (with_reducible refine isD_n (D.getN ?_); (repeat (first | (with_reducible exact mS) | apply mT))) | (with_reducible refine isD_n ((D.box false none none 0 0 0 0).getN ?_); (repeat (first | (with_reducible exact mS) | apply mT))) | (with_reducible refine isD_n ((D0.box false none none 0 0 0 0).drew.getN ?_); (repeat (first | (with_reducible exact mS) | apply mT))))); (· (first | (with_reducible refine isD_n (D.getN ?_); (repeat (first | (with_reducible exact mS) | apply mT))) | (with_reducible refine isD_n ((D.box false none none 0 0 0 0).getN ?_); (repeat (first | (with_reducible exact mS) | apply mT))) | (with_reducible refine isD_n ((D0.box false none none 0 0 0 0).drew.getN ?_); (repeat (first | (with_reducible exact mS) | apply mT))))); (· (first | (with_reducible refine isD_n (D.getN ?_); (repeat (first | (with_reducible exact mS) | apply mT))) | (with_reducible refine isD_n ((D.box false none none 0 0 0 0).getN ?_); (repeat (first | (with_reducible exact mS) | apply mT))) | (with_reducible refine isD_n ((D0.box false none none 0 0 0 0).drew.getN ?_); (repeat (first | (with_reducible exact mS) | apply mT))))); rintro e9 wh ⟨vh, rfl, id, be⟩; obtain ⟨A7, c7, rfl, _, in9⟩:=id.form; (first | (replace D:=D.step be) | (replace D:=(D.boxM hmd false none none 0 0 0 0).step be) | (replace D:=(D.box false none none 0 0 0 0).step be)); have hz:=be.size; (try simp at hz); replace D:=D.n in9; clear id in9; (try (obtain ⟨x00,x01,x02⟩:=D.lq.b0.a3; obtain ⟨y00,y01,y02⟩:=D.lq.b0.f3)); (try obtain ⟨na, nb, nc, nd, nl⟩:=D.n0)) | (go_at_call 98; (with_reducible refine (QU1.out _ _ _ ?_ ?_).mono ?_); (· (first | (with_reducible refine isD_n (D.getN ?_); (repeat (first | (with_reducible exact mS) | apply mT))) | (with_reducible refine isD_n ((D.box false none none 0 0 0 0).getN ?_); (repeat (first | (with_reducible exact mS) | apply mT))) | (with_reducible refine isD_n ((D0.box false none none 0 0 0 0).drew.getN ?_); (repeat (first | (with_reducible exact mS) | apply mT))))); (· (first | (with_reducible refine isD_n (D.getN ?_); (repeat (first | (with_reducible exact mS) | apply mT))) | (with_reducible refine isD_n ((D.box false none none 0 0 0 0).getN ?_); (repeat (first | (with_reducible exact mS) | apply mT))) | (with_reducible refine isD_n ((D0.box false none none 0 0 0 0).drew.getN ?_); (repeat (first | (with_reducible exact mS) | apply mT))))); rintro e9 wh ⟨vh, rfl, iq, be⟩; obtain ⟨A8, c8, B8, k8, rfl, _, _, _⟩:=iq.form; (first | (replace D:=D.step be) | (replace D:=(D.boxM hmd false none none 0 0 0 0).step be) | (replace D:=(D.box false none none 0 0 0 0).step be)); have hz:=be.size; (try simp at hz); replace D:=D.q iq; clear iq; (try (obtain ⟨x00,x01,x02⟩:=D.lq.b0.a3; obtain ⟨y00,y01,y02⟩:=D.lq.b0.f3)); (try obtain ⟨na, nb, nc, nd, nl⟩:=D.n0)))
  all_goals
   go_wp2_with fail
   go_meet
   first
   | ((with_reducible refine made1q_a D ?_) <;> (repeat (first | (with_reducible exact mS) | apply mT)))
   | ((with_reducible refine made1q_b D ?_) <;> (repeat (first | (with_reducible exact mS) | apply mT)))
 case rest =>
  obtain ⟨gq1, Aq1, cq1, Bq1, kq1, rfl, hg, bw, hb3, iq⟩:=hcut
  have hg4:=LL.out.b0.lt
  have hgq1 : gr < gq1:=by omega
  have hgs1:=hb3.lt
  have L:=((LL.out.step bw).q iq).b hb3
  clear D D0 hmd hz0 hK LL hb3 iq bw hb1 hb2 hc1 hc2 hg hg4 Q0 Q1 Q2 Q3 Q4 Q5 Q6 Q7 Q8 Q9 Q10 Q11
  generalize wc = wd1 at *
  (try go_wp2_with fail)
  replace L:=L.swap
  have Q0:=Hd9 (fun Z (hZ : Below wd1.heap.size wd1 Z) => (L.tl.tl.tl.b0.mono hZ).c60)
  have Q1:=Hd9 (fun Z (hZ : Below wd1.heap.size wd1 Z) => (L.tl.tl.tl.b0.mono hZ).c61)
  have Q2:=Hd9 (fun Z (hZ : Below wd1.heap.size wd1 Z) => (L.tl.tl.tl.b0.mono hZ).c62)
  have Q3:=Hd9 (fun Z (hZ : Below wd1.heap.size wd1 Z) => (L.tl.tl.tl.b0.mono hZ).c63)
  have Q4:=Hd9 (fun Z (hZ : Below wd1.heap.size wd1 Z) => (L.tl.tl.tl.b0.mono hZ).c64)
  have Q5:=Hd9 (fun Z (hZ : Below wd1.heap.size wd1 Z) => (L.tl.tl.tl.b0.mono hZ).c65)
  have Q6:=Hd9 (fun Z (hZ : Below wd1.heap.size wd1 Z) => (L.tl.tl.b0.mono hZ).c60)
  have Q7:=Hd9 (fun Z (hZ : Below wd1.heap.size wd1 Z) => (L.tl.tl.b0.mono hZ).c61)
  have Q8:=Hd9 (fun Z (hZ : Below wd1.heap.size wd1 Z) => (L.tl.tl.b0.mono hZ).c62)
  have Q9:=Hd9 (fun Z (hZ : Below wd1.heap.size wd1 Z) => (L.tl.tl.b0.mono hZ).c63)
  have Q10:=Hd9 (fun Z (hZ : Below wd1.heap.size wd1 Z) => (L.tl.tl.b0.mono hZ).c64)
  have Q11:=Hd9 (fun Z (hZ : Below wd1.heap.size wd1 Z) => (L.tl.tl.b0.mono hZ).c65)
  have hb1:=L.tl.tl.tl.b0.lt
  have hb2:=L.tl.tl.b0.lt
  have D0 : Dq wd1 wd1 [(.slice A (zl m) c, m.natAbs), (.slice B (zl n) d, n.natAbs), (.slice A2 (zl m2) k2, m2.natAbs), (.slice B2 (zl n2) d2, n2.natAbs)] [] [] []:=⟨((((Lq.mk0 wd1).n (L.getN (v:=.slice B2 (zl n2) d2) (x:=(n2).natAbs) (by simp))).n (L.getN (v:=.slice A2 (zl m2) k2) (x:=(m2).natAbs) (by simp))).n (L.getN (v:=.slice B (zl n) d) (x:=(n).natAbs) (by simp))).n (L.getN (v:=.slice A (zl m) c) (x:=(m).natAbs) (by simp)), List.nodup_nil, fun p hp => by cases hp⟩
  have D:=D0.drew
  have LL:=Hd9 L
  clear L
  obtain ⟨K, hK⟩:=nm9 (wd1.heap.size)
  have hz0 : K ≤ wd1.heap.size:=by omega
  have hc1 : w.heap.size < K:=by omega
  have hc2 : w.heap.size + 1 < K:=by omega
  have hmd : wd1.drew.heap.size = K:=hK
  go_cut [11] from 50 to 60 (fun s5 wx => Made1Q wd1 qa2 qd2 s5 wx)
  case first =>
   go_region_held3 (fun w' => w'.cell? ⟨w.heap.size, 0, none⟩ = some (.bool (ng m)) ∧ w'.cell? ⟨w.heap.size, 1, none⟩ = some (.slice A (zl m) c) ∧ w'.cell? ⟨w.heap.size, 2, none⟩ = some (.int .i64 e) ∧ w'.cell? ⟨w.heap.size, 3, none⟩ = some (.bool (ng n)) ∧ w'.cell? ⟨w.heap.size, 4, none⟩ = some (.slice B (zl n) d) ∧ w'.cell? ⟨w.heap.size, 5, none⟩ = some (.int .i64 f) ∧ w'.cell? ⟨w.heap.size + 1, 0, none⟩ = some (.bool (ng m2)) ∧ w'.cell? ⟨w.heap.size + 1, 1, none⟩ = some (.slice A2 (zl m2) k2) ∧ w'.cell? ⟨w.heap.size + 1, 2, none⟩ = some (.int .i64 e2) ∧ w'.cell? ⟨w.heap.size + 1, 3, none⟩ = some (.bool (ng n2)) ∧ w'.cell? ⟨w.heap.size + 1, 4, none⟩ = some (.slice B2 (zl n2) d2) ∧ w'.cell? ⟨w.heap.size + 1, 5, none⟩ = some (.int .i64 f2)) (((try dsimp only); refine ⟨?_, ?_, ?_, ?_, ?_, ?_, ?_, ?_, ?_, ?_, ?_, ?_⟩ <;> (repeat (first | (with_reducible exact Q0.out _ D.lq.below) | (with_reducible exact Q0.out _ D0.lq.below) | (with_reducible exact Q1.out _ D.lq.below) | (with_reducible exact Q1.out _ D0.lq.below) | (with_reducible exact Q2.out _ D.lq.below) | (with_reducible exact Q2.out _ D0.lq.below) | (with_reducible exact Q3.out _ D.lq.below) | (with_reducible exact Q3.out _ D0.lq.below) | (with_reducible exact Q4.out _ D.lq.below) | (with_reducible exact Q4.out _ D0.lq.below) | (with_reducible exact Q5.out _ D.lq.below) | (with_reducible exact Q5.out _ D0.lq.below) | (with_reducible exact Q6.out _ D.lq.below) | (with_reducible exact Q6.out _ D0.lq.below) | (with_reducible exact Q7.out _ D.lq.below) | (with_reducible exact Q7.out _ D0.lq.below) | (with_reducible exact Q8.out _ D.lq.below) | (with_reducible exact Q8.out _ D0.lq.below) | (with_reducible exact Q9.out _ D.lq.below) | (with_reducible exact Q9.out _ D0.lq.below) | (with_reducible exact Q10.out _ D.lq.below) | (with_reducible exact Q10.out _ D0.lq.below) | (with_reducible exact Q11.out _ D.lq.below) | (with_reducible exact Q11.out _ D0.lq.below) | (with_reducible refine c_alloc _ ?_) | (with_reducible refine c_drew ?_) | (with_reducible refine c_set ?_ (by assumption) ?_) | omega)))) (first | (go_at_call 99; (with_reducible refine (BS2.out _ _ _ _ ?_ ?_ ?_).mono ?_); (· (first | (with_reducible refine isD_n (D.getN ?_); (repeat (first | (with_reducible exact mS) | apply mT))) | (with_reducible refine isD_n ((D.box false none none 0 0 0 0).getN ?_); (repeat (first | (with_reducible exact mS) | apply mT))) | (with_reducible refine isD_n ((D0.box false none none 0 0 0 0).drew.getN ?_); (repeat (first | (with_reducible exact mS) | apply mT))))); (· (first | (with_reducible refine isD_n (D.getN ?_); (repeat (first | (with_reducible exact mS) | apply mT))) | (with_reducible refine isD_n ((D.box false none none 0 0 0 0).getN ?_); (repeat (first | (with_reducible exact mS) | apply mT))) | (with_reducible refine isD_n ((D0.box false none none 0 0 0 0).drew.getN ?_); (repeat (first | (with_reducible exact mS) | apply mT))))); (· (first | (with_reducible refine isD_n (D.getN ?_); (repeat (first | (with_reducible exact mS) | apply mT))) | (with_reducible refine isD_n ((D.box false none none 0 0 0 0).getN ?_); (repeat (first | (with_reducible exact mS) | apply mT))) | (with_reducible refine isD_n ((D0.box false none none 0 0 0 0).drew.getN ?_); (repeat (first | (with_reducible exact mS) | apply mT))))); rintro e9 wh ⟨vh, rfl, id, be⟩; obtain ⟨A7, c7, rfl, _, in9⟩:=id.form; (first | (replace D:=D.step be) | (replace D:=(D.boxM hmd false none none 0 0 0 0).step be) | (replace D:=(D.box false none none 0 0 0 0).step be)); have hz:=be.size; (try simp at hz); replace D:=D.n in9; clear id in9; (try (obtain ⟨x00,x01,x02⟩:=D.lq.b0.a3; obtain ⟨y00,y01,y02⟩:=D.lq.b0.f3)); (try obtain ⟨na, nb, nc, nd, nl⟩:=D.n0)) | (go_at_call 98; (with_reducible refine (QU2.out _ _ _ ?_ ?_).mono ?_); (· (first | (with_reducible refine isD_n (D.getN ?_); (repeat (first | (with_reducible exact mS) | apply mT))) | (with_reducible refine isD_n ((D.box false none none 0 0 0 0).getN ?_); (repeat (first | (with_reducible exact mS) | apply mT))) | (with_reducible refine isD_n ((D0.box false none none 0 0 0 0).drew.getN ?_); (repeat (first | (with_reducible exact mS) | apply mT))))); (· (first | (with_reducible refine isD_n (D.getN ?_); (repeat (first | (with_reducible exact mS) | apply mT))) | (with_reducible refine isD_n ((D.box false none none 0 0 0 0).getN ?_); (repeat (first | (with_reducible exact mS) | apply mT))) | (with_reducible refine isD_n ((D0.box false none none 0 0 0 0).drew.getN ?_); (repeat (first | (with_reducible exact mS) | apply mT))))); rintro e9 wh ⟨vh, rfl, iq, be⟩; obtain ⟨A8, c8, B8, k8, rfl, _, _, _⟩:=iq.form; (first | (replace D:=D.step be) | (replace D:=(D.boxM hmd false none none 0 0 0 0).step be) | (replace D:=(D.box false none none 0 0 0 0).step be)); have hz:=be.size; (try simp at hz); replace D:=D.q iq; clear iq; (try (obtain ⟨x00,x01,x02⟩:=D.lq.b0.a3; obtain ⟨y00,y01,y02⟩:=D.lq.b0.f3)); (try obtain ⟨na, nb, nc, nd, nl⟩:=D.n0)))
   all_goals
    go_wp2_with fail
    go_meet
    first
    | ((with_reducible refine made1q_a D ?_) <;> (repeat (first | (with_reducible exact mS) | apply mT)))
    | ((with_reducible refine made1q_b D ?_) <;> (repeat (first | (with_reducible exact mS) | apply mT)))
  case rest =>
   obtain ⟨gq2, Aq2, cq2, Bq2, kq2, rfl, hg, bw, hb3, iq⟩:=hcut
   have hg4:=LL.out.b0.lt
   have hgq2 : gr < gq2:=by omega
   have hgs2:=hb3.lt
   have L:=((LL.out.step bw).q iq).b hb3
   clear D D0 hmd hz0 hK LL hb3 iq bw hb1 hb2 hc1 hc2 hg hg4 Q0 Q1 Q2 Q3 Q4 Q5 Q6 Q7 Q8 Q9 Q10 Q11
   generalize wc = wd2 at *
   obtain ⟨c00,c01,c02⟩:=L.b0.a3
   obtain ⟨c20,c21,c22⟩:=L.tl.tl.b0.a3
   (try go_wp2_with fail)
   refine (EN.out _ _ _ (L.getQ (v:=.agg #[.bool (ng qa1), .slice Aq1 (zl qa1) cq1, .slice Bq1 (len qd1) kq1]) (a:=qa1) (d:=qd1) (by simp)) (L.getQ (v:=.agg #[.bool (ng qa2), .slice Aq2 (zl qa2) cq2, .slice Bq2 (len qd2) kq2]) (a:=qa2) (d:=qd2) (by simp)) L.below).mono ?_
   intro e9 w19 hen
   obtain ⟨v19, er, m9, e9', n9, f9, rfl, ii, be, hback⟩:=hen.form
   obtain ⟨A5, c5, B5, d5, rfl, ia, ib⟩:=ii.form
   replace L:=(((L.step be).n ib).n ia).swap
   clear be ii ia ib hen
   have HBK:=Hd9 hback
   clear hback
   clear c00 c01 c02 c20 c21 c22
   obtain ⟨c00,c01,c02,c03,c04,c05⟩:=L.b0.a6
   obtain ⟨f00,f01,f02,f03,f04,f05⟩:=L.b0.f6
   go_wp2_with fail
   have LP:=L.putI (by omega) (by first | (simp; done) | (simp; omega)) (ng m9) A5 (zl m9) c5 e9' (ng n9) B5 (zl n9) d5 f9
   have k0':=LP.b0.c60
   have k1':=LP.b0.c61
   have k2':=LP.b0.c62
   have k3':=LP.b0.c63
   have k4':=LP.b0.c64
   have k5':=LP.b0.c65
   unfold put6 at k0' k1' k2' k3' k4' k5'
   exact bodyPost_ret (v:=.tuple #[.agg #[.bool (ng m9), .slice A5 (zl m9) c5, .int .i64 e9', .bool (ng n9), .slice B5 (zl n9) d5, .int .i64 f9], .int .i64 er]) (by simp [results, Tryz.results44, go_sem, k0', k1', k2', k3', k4', k5']) rfl (HBK.out _ _ _ (isI_n (LP.getN (by simp)) (LP.getN (by simp))) LP.below)


end Go.Proofs.YtiddbhhhmeopeaaGreatDoor
