/- Base texts, joined: RatMath, RatA, RatWays, RatWaysZ, RatTwo, DyA, DyWays. -/
import Derived.Test.YtiddbhhhmeopeaaGreatDoorBaseIE7
import Derived.Test.YtiddbhhhmeopeaaGreatDoorBaseJE7
import Derived.Deep.RegionHeld3
import Derived.Deep.DrawnRows
import Derived.Test.YtiddbhhhmeopeaaGreatDoorBaseRE7
/- Fractions: pairs of an integer and a natural; what the results of the operations are. -/
namespace Go.Proofs.YtiddbhhhmeopeaaGreatDoor
set_option maxHeartbeats 64000000
open Go.RowKit
set_option linter.unusedVariables false
set_option linter.unusedSimpArgs false
set_option maxRecDepth 100000

theorem sg_div (z : Int) (g : Nat) (h : g ∣ z.natAbs) (b : Bool) (hb : b = ng z) : sg b (z.natAbs / g) = z / (g : Int):=by
 subst hb
 by_cases hz : z < 0
 ·rw [ng_yes hz]
  obtain ⟨k, rfl⟩ : ∃ k : Nat, z = -(k : Int):=⟨z.natAbs, by omega⟩
  rw [Int.natAbs_neg, Int.natAbs_natCast] at h ⊢
  rw [Int.neg_ediv_of_dvd (Int.natCast_dvd_natCast.2 h)]
  show -((k / g : Nat) : Int) = _
  rw [Int.natCast_ediv]
 ·rw [ng_no (show 0 ≤ z by omega)]
  obtain ⟨k, rfl⟩ : ∃ k : Nat, z = (k : Int):=⟨z.natAbs, by omega⟩
  rw [Int.natAbs_natCast]
  show ((k / g : Nat) : Int) = _
  rw [Int.natCast_ediv]
theorem sg_neg (b : Bool) (x : Nat) : sg (!b) x = -sg b x:=by unfold sg; cases b <;> simp
theorem divInt_pair (n m : Int) (hm : m ≠ 0) : (Rat.divInt n m).num = sg (ng n != ng m) (n.natAbs / Nat.gcd n.natAbs m.natAbs) ∧ (Rat.divInt n m).den = m.natAbs / Nat.gcd n.natAbs m.natAbs:=by
 have hg : Int.gcd m n = Nat.gcd n.natAbs m.natAbs:=by rw [Int.gcd_comm]; rfl
 refine ⟨?_, by rw [Rat.den_divInt, if_neg hm, hg]⟩
 rw [Rat.num_divInt, hg]
 have hd : Nat.gcd n.natAbs m.natAbs ∣ n.natAbs:=Nat.gcd_dvd_left _ _
 rcases Int.lt_or_gt_of_ne hm with h | h
 ·rw [Int.sign_eq_neg_one_of_neg h, ng_yes h]
  have e : (-1 : Int) * n = -n:=by omega
  rw [e, Int.neg_ediv_of_dvd (Int.ofNat_dvd_left.2 hd), ← sg_div n _ hd _ rfl, ← sg_neg]
  congr 1
  cases ng n <;> rfl
 ·rw [Int.sign_eq_one_of_pos h, Int.one_mul, ng_no (show 0 ≤ m by omega), ← sg_div n _ hd _ rfl]
  congr 1
  cases ng n <;> rfl

theorem rat_self (q : Rat) : Rat.divInt q.num (q.den : Int) = q:=by
 have h:=@Rat.mk_eq_divInt q.num q.den q.den_nz q.reduced
 exact h.symm
theorem den_pos' (q : Rat) : 0 < q.den:=Nat.pos_of_ne_zero q.den_nz
end Go.Proofs.YtiddbhhhmeopeaaGreatDoor


/- Words for fractions: a struct of an integer and a natural; variables that hold such structs; what is known at a point of a walk. -/
namespace Go.Proofs.YtiddbhhhmeopeaaGreatDoor
set_option maxHeartbeats 64000000
open Go.RowKit
set_option linter.unusedVariables false
set_option linter.unusedSimpArgs false
set_option maxRecDepth 100000
def IsP (w : World) (v : Value) (a : Int) (d : Nat) : Prop:=∃ s t, v = .agg #[.bool (ng a), s, t] ∧ IsN w s a.natAbs ∧ IsN w t d
theorem IsP.mono {w w' : World} {v : Value} {a : Int} {d : Nat} (h : IsP w v a d) (hb : Below w.heap.size w w') : IsP w' v a d:=by
 obtain ⟨s, t, e, hs, ht⟩:=h
 exact ⟨s, t, e, hs.mono hb, ht.mono hb⟩
theorem IsP.form {w : World} {v : Value} {a : Int} {d : Nat} (h : IsP w v a d) : ∃ A c B e, v = .agg #[.bool (ng a), .slice A (zl a) c, .slice B (len d) e] ∧ IsZ w (.agg #[.bool (ng a), .slice A (zl a) c]) a ∧ IsN w (.slice A (zl a) c) a.natAbs ∧ IsN w (.slice B (len d) e) d:=by
 obtain ⟨s, t, e, hs, ht⟩:=h
 obtain ⟨A, c, e1⟩:=hs.form
 obtain ⟨B, f, e2⟩:=ht.form
 subst e1; subst e2
 exact ⟨A, c, B, f, e, ⟨_, rfl, hs⟩, hs, ht⟩
theorem isP_of {w : World} {s t : Value} {a : Int} {d : Nat} (hs : IsZ w (.agg #[.bool (ng a), s]) a) (ht : IsN w t d) : IsP w (.agg #[.bool (ng a), s, t]) a d:=by
 obtain ⟨s', e, h⟩:=hs
 have : s = s':=by simpa using e
 subst this
 exact ⟨s, t, rfl, h, ht⟩
def Plain (cs : Array Value) : Prop:=∀ (j : Nat) (x : Int), cs[j]? ≠ some (.int .u32 x)
def Var (w : World) (g : Nat) (t : TypeId) (cs : Array Value) : Prop:=w.heap[g]? = some (.cells cs t (0, 0)) ∧ Plain cs
theorem plain2 (b : Bool) (A : Option Addr) (n c : Nat) : Plain #[.bool b, .slice A n c]:=fun j x => by
 match j with
 | 0 => simp
 | 1 => simp
 | j + 2 => simp
theorem plain3 (b : Bool) (A B : Option Addr) (n c m d : Nat) : Plain #[.bool b, .slice A n c, .slice B m d]:=fun j x => by
 match j with
 | 0 => simp
 | 1 => simp
 | 2 => simp
 | j + 3 => simp
section
variable {w w' : World} {g : Nat} {t : TypeId} {cs : Array Value}
theorem Var.lt (h : Var w g t cs) : g < w.heap.size:=by
 rcases Nat.lt_or_ge g w.heap.size with h1 | h1
 ·exact h1
 ·have:=h.1; rw [Array.getElem?_eq_none h1] at this; cases this
theorem Var.mono (h : Var w g t cs) (hb : Below w.heap.size w w') : Var w' g t cs:=⟨by rw [hb.block g h.lt]; exact h.1, h.2⟩
theorem Var.cell (h : Var w g t cs) (j : Nat) : w.cell? ⟨g, j, none⟩ = cs[j]?:=cell_of_row w g j _ _ _ h.1
theorem Var.fr (h : Var w g t cs) (j : Nat) : w.frozen? ⟨g, j, none⟩ = false:=by
 have:=h.1
 simp [World.frozen?, this]
theorem Var.a2 {w : World} {g : Nat} {ty : TypeId} {x0 x1 : Value} (h : Var w g ty #[x0, x1]) : w.cell? ⟨g, 0, none⟩ = some x0 ∧ w.cell? ⟨g, 1, none⟩ = some x1:=⟨h.cell 0, h.cell 1⟩
theorem Var.f2 {w : World} {g : Nat} {ty : TypeId} {cs : Array Value} (h : Var w g ty cs) : w.frozen? ⟨g, 0, none⟩ = false ∧ w.frozen? ⟨g, 1, none⟩ = false:=⟨h.fr 0, h.fr 1⟩
theorem Var.a3 {w : World} {g : Nat} {ty : TypeId} {x0 x1 x2 : Value} (h : Var w g ty #[x0, x1, x2]) : w.cell? ⟨g, 0, none⟩ = some x0 ∧ w.cell? ⟨g, 1, none⟩ = some x1 ∧ w.cell? ⟨g, 2, none⟩ = some x2:=⟨h.cell 0, h.cell 1, h.cell 2⟩
theorem Var.f3 {w : World} {g : Nat} {ty : TypeId} {cs : Array Value} (h : Var w g ty cs) : w.frozen? ⟨g, 0, none⟩ = false ∧ w.frozen? ⟨g, 1, none⟩ = false ∧ w.frozen? ⟨g, 2, none⟩ = false:=⟨h.fr 0, h.fr 1, h.fr 2⟩
theorem Var.a4 {w : World} {g : Nat} {ty : TypeId} {x0 x1 x2 x3 : Value} (h : Var w g ty #[x0, x1, x2, x3]) : w.cell? ⟨g, 0, none⟩ = some x0 ∧ w.cell? ⟨g, 1, none⟩ = some x1 ∧ w.cell? ⟨g, 2, none⟩ = some x2 ∧ w.cell? ⟨g, 3, none⟩ = some x3:=⟨h.cell 0, h.cell 1, h.cell 2, h.cell 3⟩
theorem Var.f4 {w : World} {g : Nat} {ty : TypeId} {cs : Array Value} (h : Var w g ty cs) : w.frozen? ⟨g, 0, none⟩ = false ∧ w.frozen? ⟨g, 1, none⟩ = false ∧ w.frozen? ⟨g, 2, none⟩ = false ∧ w.frozen? ⟨g, 3, none⟩ = false:=⟨h.fr 0, h.fr 1, h.fr 2, h.fr 3⟩
theorem Var.a6 {w : World} {g : Nat} {ty : TypeId} {x0 x1 x2 x3 x4 x5 : Value} (h : Var w g ty #[x0, x1, x2, x3, x4, x5]) : w.cell? ⟨g, 0, none⟩ = some x0 ∧ w.cell? ⟨g, 1, none⟩ = some x1 ∧ w.cell? ⟨g, 2, none⟩ = some x2 ∧ w.cell? ⟨g, 3, none⟩ = some x3 ∧ w.cell? ⟨g, 4, none⟩ = some x4 ∧ w.cell? ⟨g, 5, none⟩ = some x5:=⟨h.cell 0, h.cell 1, h.cell 2, h.cell 3, h.cell 4, h.cell 5⟩
theorem Var.f6 {w : World} {g : Nat} {ty : TypeId} {cs : Array Value} (h : Var w g ty cs) : w.frozen? ⟨g, 0, none⟩ = false ∧ w.frozen? ⟨g, 1, none⟩ = false ∧ w.frozen? ⟨g, 2, none⟩ = false ∧ w.frozen? ⟨g, 3, none⟩ = false ∧ w.frozen? ⟨g, 4, none⟩ = false ∧ w.frozen? ⟨g, 5, none⟩ = false:=⟨h.fr 0, h.fr 1, h.fr 2, h.fr 3, h.fr 4, h.fr 5⟩
theorem Var.mk (w : World) (t : TypeId) (cs : Array Value) (h : Plain cs) : Var (w.alloc (.cells cs t)) w.heap.size t cs:=⟨heap_alloc_new w _, h⟩
theorem Var.c20 {a b : Value} (h : Var w g t #[a, b]) : w.cell? ⟨g, 0, none⟩ = some a:=h.cell 0
theorem Var.c21 {a b : Value} (h : Var w g t #[a, b]) : w.cell? ⟨g, 1, none⟩ = some b:=h.cell 1
theorem Var.c30 {a b c : Value} (h : Var w g t #[a, b, c]) : w.cell? ⟨g, 0, none⟩ = some a:=h.cell 0
theorem Var.c31 {a b c : Value} (h : Var w g t #[a, b, c]) : w.cell? ⟨g, 1, none⟩ = some b:=h.cell 1
theorem Var.c32 {a b c : Value} (h : Var w g t #[a, b, c]) : w.cell? ⟨g, 2, none⟩ = some c:=h.cell 2
theorem Var.isN (hB : Var w g t cs) (j : Nat) (u : Value) {v : Value} {x : Nat} (h : IsN w v x) : IsN (w.setCell ⟨g, j, none⟩ u) v x:=by
 obtain ⟨A, n, c, e, hs⟩:=h
 refine ⟨A, n, c, e, ⟨hs.len, hs.cap, hs.most, hs.small, fun hn => ?_⟩⟩
 obtain ⟨k, off, h1, h2, h3⟩:=hs.place hn
 have hne : k ≠ g:=by
  rintro rfl
  have h4:=h3 0 hn
  rw [hB.cell] at h4
  exact hB.2 _ _ h4
 have hh:=heap_setCell_other w ⟨g, j, none⟩ k u hne
 refine ⟨k, off, h1, ?_, fun i hi => ?_⟩
 ·rcases Nat.lt_or_ge k (w.setCell ⟨g, j, none⟩ u).heap.size with h5 | h5
  ·exact h5
  ·rw [Array.getElem?_eq_none h5, Array.getElem?_eq_getElem h2] at hh; cases hh
 ·rw [World.cell?_of_block (w:=w) (a:=⟨k, off + i, none⟩) hh]
  exact h3 i hi
theorem Var.set (hB : Var w g t cs) (j : Nat) (u : Value) (hu : ∀ x, u ≠ .int .u32 x) : Var (w.setCell ⟨g, j, none⟩ u) g t (cs.setIfInBounds j u):=by
 refine ⟨heap_setCell_same w g j _ _ _ hB.1, fun i x h => ?_⟩
 rw [Array.getElem?_setIfInBounds] at h
 split at h
 ·split at h
  ·exact hu x (Option.some.inj h)
  ·cases h
 ·exact hB.2 i x h
theorem Var.set_other {k : Nat} {t' : TypeId} {cs' : Array Value} (h : Var w k t' cs') (hne : k ≠ g) (j : Nat) (u : Value) : Var (w.setCell ⟨g, j, none⟩ u) k t' cs':=by
 refine ⟨?_, h.2⟩
 rw [heap_setCell_other w ⟨g, j, none⟩ k u hne]
 exact h.1
end
structure Lq (w0 w : World) (ns : List (Value × Nat)) (zs : List (Value × Int)) (qs : List (Value × Int × Nat)) (bs : List (Nat × TypeId × Array Value)) : Prop where
 below : Below w0.heap.size w0 w
 ns : ∀ p ∈ ns, IsN w p.1 p.2
 zs : ∀ p ∈ zs, IsZ w p.1 p.2
 qs : ∀ p ∈ qs, IsP w p.1 p.2.1 p.2.2
 bs : ∀ p ∈ bs, Var w p.1 p.2.1 p.2.2
section
variable {w0 w : World} {ns : List (Value × Nat)} {zs : List (Value × Int)} {qs : List (Value × Int × Nat)} {bs : List (Nat × TypeId × Array Value)}
theorem Lq.mk0 (w : World) : Lq w w [] [] [] []:=⟨Below.refl _ _, fun _ h => (by cases h), fun _ h => (by cases h), fun _ h => (by cases h), fun _ h => (by cases h)⟩
theorem Lq.step {w' : World} (h : Lq w0 w ns zs qs bs) (hb : Below w.heap.size w w') : Lq w0 w' ns zs qs bs:=
 ⟨h.below.trans (hb.mono h.below.size), fun p hp => (h.ns p hp).mono hb, fun p hp => (h.zs p hp).mono hb, fun p hp => (h.qs p hp).mono hb, fun p hp => (h.bs p hp).mono hb⟩
theorem Lq.drew (h : Lq w0 w ns zs qs bs) : Lq w0 w.drew ns zs qs bs:=h.step ((Below.refl _ _).drew)
theorem all_cons {α : Type} {P : α → Prop} {a : α} {l : List α} (h1 : P a) (h2 : ∀ p ∈ l, P p) : ∀ p ∈ a :: l, P p:=fun p hp => by
 rcases List.mem_cons.1 hp with rfl | hp
 ·exact h1
 ·exact h2 p hp
theorem Lq.n (h : Lq w0 w ns zs qs bs) {v : Value} {x : Nat} (hv : IsN w v x) : Lq w0 w ((v, x) :: ns) zs qs bs:=⟨h.below, all_cons hv h.ns, h.zs, h.qs, h.bs⟩
theorem Lq.z (h : Lq w0 w ns zs qs bs) {v : Value} {x : Int} (hv : IsZ w v x) : Lq w0 w ns ((v, x) :: zs) qs bs:=⟨h.below, h.ns, all_cons hv h.zs, h.qs, h.bs⟩
theorem Lq.q (h : Lq w0 w ns zs qs bs) {v : Value} {a : Int} {d : Nat} (hv : IsP w v a d) : Lq w0 w ns zs ((v, a, d) :: qs) bs:=⟨h.below, h.ns, h.zs, all_cons (P:=fun p : Value × Int × Nat => IsP w p.1 p.2.1 p.2.2) hv h.qs, h.bs⟩
theorem Lq.b (h : Lq w0 w ns zs qs bs) {g : Nat} {t : TypeId} {cs : Array Value} (hv : Var w g t cs) : Lq w0 w ns zs qs ((g, t, cs) :: bs):=⟨h.below, h.ns, h.zs, h.qs, all_cons (P:=fun p : Nat × TypeId × Array Value => Var w p.1 p.2.1 p.2.2) hv h.bs⟩
theorem Lq.var (h : Lq w0 w ns zs qs bs) (g : Nat) (hg : g = w.heap.size) (t : TypeId) (cs : Array Value) (hp : Plain cs) : Lq w0 (w.alloc (.cells cs t)) ns zs qs ((g, t, cs) :: bs):=by
 subst hg
 exact (h.step ((Below.refl w.heap.size w).alloc (Nat.le_refl _) _)).b (Var.mk w t cs hp)
theorem Lq.varZ (h : Lq w0 w ns zs qs bs) (g : Nat) (hg : g = w.heap.size) (b : Bool) (A : Option Addr) (n c : Nat) : Lq w0 (w.alloc (.cells #[.bool b, .slice A n c] 24)) ns zs qs ((g, 24, #[.bool b, .slice A n c]) :: bs):=h.var g hg _ _ (plain2 _ _ _ _)
theorem Lq.varQ (h : Lq w0 w ns zs qs bs) (g : Nat) (hg : g = w.heap.size) (b : Bool) (A B : Option Addr) (n c m d : Nat) : Lq w0 (w.alloc (.cells #[.bool b, .slice A n c, .slice B m d] 65)) ns zs qs ((g, 65, #[.bool b, .slice A n c, .slice B m d]) :: bs):=h.var g hg _ _ (plain3 _ _ _ _ _ _ _)
theorem Lq.getN (h : Lq w0 w ns zs qs bs) {v : Value} {x : Nat} (hp : (v, x) ∈ ns) : IsN w v x:=h.ns (v, x) hp
theorem Lq.getZ (h : Lq w0 w ns zs qs bs) {v : Value} {x : Int} (hp : (v, x) ∈ zs) : IsZ w v x:=h.zs (v, x) hp
theorem Lq.getQ (h : Lq w0 w ns zs qs bs) {v : Value} {a : Int} {d : Nat} (hp : (v, a, d) ∈ qs) : IsP w v a d:=h.qs (v, a, d) hp
theorem Lq.hn {v : Value} {x : Nat} (h : Lq w0 w ((v, x) :: ns) zs qs bs) : IsN w v x:=h.ns (v, x) (List.mem_cons_self ..)
theorem Lq.hz {v : Value} {x : Int} (h : Lq w0 w ns ((v, x) :: zs) qs bs) : IsZ w v x:=h.zs (v, x) (List.mem_cons_self ..)
theorem Lq.hq {v : Value} {a : Int} {d : Nat} (h : Lq w0 w ns zs ((v, a, d) :: qs) bs) : IsP w v a d:=h.qs (v, a, d) (List.mem_cons_self ..)
theorem Lq.b0 {g : Nat} {t : TypeId} {cs : Array Value} (h : Lq w0 w ns zs qs ((g, t, cs) :: bs)) : Var w g t cs:=h.bs (g, t, cs) (List.mem_cons_self ..)
theorem Lq.tl {p : Nat × TypeId × Array Value} (h : Lq w0 w ns zs qs (p :: bs)) : Lq w0 w ns zs qs bs:=⟨h.below, h.ns, h.zs, h.qs, fun p hp => h.bs p (List.mem_cons_of_mem _ hp)⟩
theorem Lq.swap {p q : Nat × TypeId × Array Value} (h : Lq w0 w ns zs qs (p :: q :: bs)) : Lq w0 w ns zs qs (q :: p :: bs):=
 ⟨h.below, h.ns, h.zs, h.qs, fun r hr => h.bs r (by simp only [List.mem_cons] at hr ⊢; rcases hr with h | h | h <;> simp [h])⟩
theorem Lq.pull2 {p q r : Nat × TypeId × Array Value} (h : Lq w0 w ns zs qs (p :: q :: r :: bs)) : Lq w0 w ns zs qs (r :: p :: q :: bs):=
 ⟨h.below, h.ns, h.zs, h.qs, fun t ht => h.bs t (by simp only [List.mem_cons] at ht ⊢; rcases ht with h | h | h | h <;> simp [h])⟩
theorem Lq.set {g : Nat} {t : TypeId} {cs : Array Value} (h : Lq w0 w ns zs qs ((g, t, cs) :: bs)) (hg : w0.heap.size ≤ g) (hd : ∀ p ∈ bs, p.1 ≠ g) (j : Nat) (u : Value) (hu : ∀ x, u ≠ .int .u32 x) : Lq w0 (w.setCell ⟨g, j, none⟩ u) ns zs qs ((g, t, cs.setIfInBounds j u) :: bs):=by
 refine ⟨h.below.setCell (p:=⟨g, j, none⟩) hg _, fun p hp => h.b0.isN j u (h.ns p hp), fun p hp => ?_, fun p hp => ?_, all_cons (P:=fun p : Nat × TypeId × Array Value => Var _ p.1 p.2.1 p.2.2) (h.b0.set j u hu) (fun p hp => (h.bs p (List.mem_cons_of_mem _ hp)).set_other (hd p hp) j u)⟩
 ·obtain ⟨s, e, hs⟩:=h.zs p hp
  exact ⟨s, e, h.b0.isN j u hs⟩
 ·obtain ⟨s, r, e, hs, hr⟩:=h.qs p hp
  exact ⟨s, r, e, h.b0.isN j u hs, h.b0.isN j u hr⟩
def put3 (w : World) (g : Nat) (b : Bool) (s t : Value) : World:=((w.setCell ⟨g, 0, none⟩ (.bool b)).setCell ⟨g, 1, none⟩ s).setCell ⟨g, 2, none⟩ t
theorem Lq.putQ {g : Nat} {b : Bool} {s t : Value} (h : Lq w0 w ns zs qs ((g, 65, #[.bool b, s, t]) :: bs)) (hg : w0.heap.size ≤ g) (hd : ∀ p ∈ bs, p.1 ≠ g) (b' : Bool) (A B : Option Addr) (n c m d : Nat) :
  Lq w0 (put3 w g b' (.slice A n c) (.slice B m d)) ns zs qs ((g, 65, #[.bool b', .slice A n c, .slice B m d]) :: bs):=
 ((h.set hg hd 0 (.bool b') (by intro x e; cases e)).set hg hd 1 (.slice A n c) (by intro x e; cases e)).set hg hd 2 (.slice B m d) (by intro x e; cases e)
theorem Lq.putZ {g : Nat} {b : Bool} {s : Value} (h : Lq w0 w ns zs qs ((g, 24, #[.bool b, s]) :: bs)) (hg : w0.heap.size ≤ g) (hd : ∀ p ∈ bs, p.1 ≠ g) (b' : Bool) (A : Option Addr) (n c : Nat) :
  Lq w0 (put2 w g b' (.slice A n c)) ns zs qs ((g, 24, #[.bool b', .slice A n c]) :: bs):=
 (h.set hg hd 0 (.bool b') (by intro x e; cases e)).set hg hd 1 (.slice A n c) (by intro x e; cases e)
end
def RetP (w : World) (a : Int) (d : Nat) (e : Ending) (w' : World) : Prop:=∃ v, e = .returned v ∧ IsP w' v a d ∧ Below w.heap.size w w'
def RetPE (w : World) (a : Int) (d : Nat) (er : Int) (e : Ending) (w' : World) : Prop:=∃ v, e = .returned (.tuple #[v, .int .i64 er]) ∧ IsP w' v a d ∧ Below w.heap.size w w'
def RetQ (w : World) (q : Rat) (e : Ending) (w' : World) : Prop:=RetP w q.num q.den e w'

end Go.Proofs.YtiddbhhhmeopeaaGreatDoor


/- A new variable that holds a fraction, made in a statement that draws its order. -/
namespace Go.Proofs.YtiddbhhhmeopeaaGreatDoor
set_option maxHeartbeats 64000000
open Go.RowKit
set_option linter.unusedVariables false
set_option linter.unusedSimpArgs false
set_option maxRecDepth 100000
structure Dq (w0 w : World) (ns : List (Value × Nat)) (zs : List (Value × Int)) (qs : List (Value × Int × Nat)) (bs : List (Nat × TypeId × Array Value)) : Prop where
 lq : Lq w0 w ns zs qs bs
 nodup : (bs.map (·.1)).Nodup
 ge : ∀ p ∈ bs, w0.heap.size ≤ p.1
section
variable {w0 w : World} {ns : List (Value × Nat)} {zs : List (Value × Int)} {qs : List (Value × Int × Nat)} {bs : List (Nat × TypeId × Array Value)}
theorem Dq.step {w' : World} (h : Dq w0 w ns zs qs bs) (hb : Below w.heap.size w w') : Dq w0 w' ns zs qs bs:=⟨h.lq.step hb, h.nodup, h.ge⟩
theorem Dq.drew (h : Dq w0 w ns zs qs bs) : Dq w0 w.drew ns zs qs bs:=h.step ((Below.refl _ _).drew)
theorem Dq.z (h : Dq w0 w ns zs qs bs) {v : Value} {x : Int} (hv : IsZ w v x) : Dq w0 w ns ((v, x) :: zs) qs bs:=⟨h.lq.z hv, h.nodup, h.ge⟩
theorem Dq.q (h : Dq w0 w ns zs qs bs) {v : Value} {a : Int} {d : Nat} (hv : IsP w v a d) : Dq w0 w ns zs ((v, a, d) :: qs) bs:=⟨h.lq.q hv, h.nodup, h.ge⟩
theorem Dq.getN (h : Dq w0 w ns zs qs bs) {v : Value} {x : Nat} (hp : (v, x) ∈ ns) : IsN w v x:=h.lq.getN hp
theorem Dq.getZ (h : Dq w0 w ns zs qs bs) {v : Value} {x : Int} (hp : (v, x) ∈ zs) : IsZ w v x:=h.lq.getZ hp
theorem Dq.getQ (h : Dq w0 w ns zs qs bs) {v : Value} {a : Int} {d : Nat} (hp : (v, a, d) ∈ qs) : IsP w v a d:=h.lq.getQ hp
theorem Dq.box (h : Dq w0 w ns zs qs bs) (b : Bool) (A B : Option Addr) (n c m d : Nat) : Dq w0 (w.alloc (.cells #[.bool b, .slice A n c, .slice B m d] 65)) ns zs qs ((w.heap.size, 65, #[.bool b, .slice A n c, .slice B m d]) :: bs):=by
 refine ⟨h.lq.varQ w.heap.size rfl b A B n c m d, ?_, fun p hp => ?_⟩
 ·rw [List.map_cons, List.nodup_cons]
  refine ⟨fun hm => ?_, h.nodup⟩
  obtain ⟨p, hp, e⟩:=List.mem_map.1 hm
  have:=(h.lq.bs p hp).lt
  omega
 ·rcases List.mem_cons.1 hp with rfl | hp
  ·exact h.lq.below.size
  ·exact h.ge p hp
theorem Dq.boxM (h : Dq w0 w ns zs qs bs) {k : Nat} (hk : w.heap.size = k) (b : Bool) (A B : Option Addr) (n c m d : Nat) : Dq w0 (w.alloc (.cells #[.bool b, .slice A n c, .slice B m d] 65)) ns zs qs ((k, 65, #[.bool b, .slice A n c, .slice B m d]) :: bs):=by
 subst hk; exact h.box b A B n c m d
theorem Dq.put (g : Nat) {b : Bool} {s t : Value} (h : Dq w0 w ns zs qs ((g, 65, #[.bool b, s, t]) :: bs)) (b' : Bool) (A B : Option Addr) (n c m d : Nat) : Dq w0 (put3 w g b' (.slice A n c) (.slice B m d)) ns zs qs ((g, 65, #[.bool b', .slice A n c, .slice B m d]) :: bs):=by
 have hn:=h.nodup
 rw [List.map_cons, List.nodup_cons] at hn
 refine ⟨h.lq.putQ (h.ge _ (List.mem_cons_self ..)) (fun p hp e => hn.1 (List.mem_map.2 ⟨p, hp, e⟩)) b' A B n c m d, ?_, fun p hp => ?_⟩
 ·rw [List.map_cons, List.nodup_cons]; exact hn
 ·rcases List.mem_cons.1 hp with rfl | hp
  ·exact h.ge (g, 65, #[.bool b, s, t]) (List.mem_cons_self ..)
  ·exact h.ge p (List.mem_cons_of_mem _ hp)
theorem Dq.n0 {g : Nat} {t : TypeId} {cs : Array Value} (h : Dq w0 w ns zs qs ((g, t, cs) :: bs)) : g ≠ w.heap.size ∧ w.heap.size ≠ g ∧ g ≠ w.heap.size + 1 ∧ w.heap.size + 1 ≠ g ∧ g < w.heap.size:=by
 have:=(h.lq.bs (g, t, cs) (List.mem_cons_self ..)).lt
 simp only at this
 omega
end
def Made1Q (w0 : World) (a : Int) (d : Nat) (s : Value) (w' : World) : Prop:=∃ g A c B k, s = .pointer (some ⟨g, 0, none⟩) ∧ w0.heap.size ≤ g ∧ Below w0.heap.size w0 w' ∧ Var w' g 65 #[.bool (ng a), .slice A (zl a) c, .slice B (len d) k] ∧ IsP w' (.agg #[.bool (ng a), .slice A (zl a) c, .slice B (len d) k]) a d
section
variable {w0 w : World} {ns : List (Value × Nat)} {zs : List (Value × Int)} {qs : List (Value × Int × Nat)} {a : Int} {d c k : Nat} {A B : Option Addr}
theorem made1q_of {w' : World} {g : Nat} (D : Dq w0 w' ns zs qs [(g, 65, #[.bool (ng a), .slice A (zl a) c, .slice B (len d) k])]) (h : (.agg #[.bool (ng a), .slice A (zl a) c, .slice B (len d) k], a, d) ∈ qs) : Made1Q w0 a d (.pointer (some ⟨g, 0, none⟩)) w':=
 ⟨g, A, c, B, k, rfl, D.ge _ (List.mem_cons_self ..), D.lq.below, D.lq.b0, D.getQ h⟩
theorem made1q_a (D : Dq w0 w ns zs qs []) (h : (.agg #[.bool (ng a), .slice A (zl a) c, .slice B (len d) k], a, d) ∈ qs) :
  Made1Q w0 a d (.pointer (some ⟨w.heap.size, 0, none⟩)) (w.alloc (.cells #[.bool (ng a), .slice A (zl a) c, .slice B (len d) k] 65)):=made1q_of (D.box _ _ _ _ _ _ _) h
theorem made1q_b {g : Nat} {b : Bool} {s t : Value} (D : Dq w0 w ns zs qs [(g, 65, #[.bool b, s, t])]) (h : (.agg #[.bool (ng a), .slice A (zl a) c, .slice B (len d) k], a, d) ∈ qs) :
  Made1Q w0 a d (.pointer (some ⟨g, 0, none⟩)) (((w.setCell ⟨g, 0, none⟩ (.bool (ng a))).setCell ⟨g, 1, none⟩ (.slice A (zl a) c)).setCell ⟨g, 2, none⟩ (.slice B (len d) k)):=made1q_of (D.put g (ng a) A B (zl a) c (len d) k) h
end

end Go.Proofs.YtiddbhhhmeopeaaGreatDoor


/- A new variable that holds an integer, beside fractions, made in a statement that draws its order. -/
namespace Go.Proofs.YtiddbhhhmeopeaaGreatDoor
set_option maxHeartbeats 64000000
open Go.RowKit
set_option linter.unusedVariables false
set_option linter.unusedSimpArgs false
set_option maxRecDepth 100000
attribute [local go_sem ↓] Go.wp_at_zero Go.wp_at_succ

section
variable {w0 w : World} {ns : List (Value × Nat)} {zs : List (Value × Int)} {qs : List (Value × Int × Nat)} {bs : List (Nat × TypeId × Array Value)}
theorem Dq.n (h : Dq w0 w ns zs qs bs) {v : Value} {x : Nat} (hv : IsN w v x) : Dq w0 w ((v, x) :: ns) zs qs bs:=⟨h.lq.n hv, h.nodup, h.ge⟩
theorem Dq.boxZ (h : Dq w0 w ns zs qs bs) (b : Bool) (A : Option Addr) (n c : Nat) : Dq w0 (w.alloc (.cells #[.bool b, .slice A n c] 24)) ns zs qs ((w.heap.size, 24, #[.bool b, .slice A n c]) :: bs):=by
 refine ⟨h.lq.varZ w.heap.size rfl b A n c, ?_, fun p hp => ?_⟩
 ·rw [List.map_cons, List.nodup_cons]
  refine ⟨fun hm => ?_, h.nodup⟩
  obtain ⟨p, hp, e⟩:=List.mem_map.1 hm
  have:=(h.lq.bs p hp).lt
  omega
 ·rcases List.mem_cons.1 hp with rfl | hp
  ·exact h.lq.below.size
  ·exact h.ge p hp
theorem Dq.boxMZ (h : Dq w0 w ns zs qs bs) {k : Nat} (hk : w.heap.size = k) (b : Bool) (A : Option Addr) (n c : Nat) : Dq w0 (w.alloc (.cells #[.bool b, .slice A n c] 24)) ns zs qs ((k, 24, #[.bool b, .slice A n c]) :: bs):=by
 subst hk; exact h.boxZ b A n c
theorem Dq.putZ (g : Nat) {b : Bool} {s : Value} (h : Dq w0 w ns zs qs ((g, 24, #[.bool b, s]) :: bs)) (b' : Bool) (A : Option Addr) (n c : Nat) : Dq w0 (put2 w g b' (.slice A n c)) ns zs qs ((g, 24, #[.bool b', .slice A n c]) :: bs):=by
 have hn:=h.nodup
 rw [List.map_cons, List.nodup_cons] at hn
 refine ⟨h.lq.putZ (h.ge _ (List.mem_cons_self ..)) (fun p hp e => hn.1 (List.mem_map.2 ⟨p, hp, e⟩)) b' A n c, ?_, fun p hp => ?_⟩
 ·rw [List.map_cons, List.nodup_cons]; exact hn
 ·rcases List.mem_cons.1 hp with rfl | hp
  ·exact h.ge (g, 24, #[.bool b, s]) (List.mem_cons_self ..)
  ·exact h.ge p (List.mem_cons_of_mem _ hp)
end
section
variable {w0 w : World} {ns : List (Value × Nat)} {zs : List (Value × Int)} {qs : List (Value × Int × Nat)} {z : Int} {c : Nat} {A : Option Addr}
end

end Go.Proofs.YtiddbhhhmeopeaaGreatDoor


/- Two new variables that hold fractions, made in one statement, in whatever order. -/
namespace Go.Proofs.YtiddbhhhmeopeaaGreatDoor
set_option maxHeartbeats 64000000
open Go.RowKit
set_option linter.unusedVariables false
set_option linter.unusedSimpArgs false
set_option maxRecDepth 100000
attribute [local go_sem ↓] Go.wp_at_zero Go.wp_at_succ

section
variable {w0 w : World} {ns : List (Value × Nat)} {zs : List (Value × Int)} {qs : List (Value × Int × Nat)} {bs : List (Nat × TypeId × Array Value)}
theorem Dq.alloc (h : Dq w0 w ns zs qs bs) (o : Obj) : Dq w0 (w.alloc o) ns zs qs bs:=h.step ((Below.refl w.heap.size w).alloc (Nat.le_refl _) o)
theorem Dq.swap {p q : Nat × TypeId × Array Value} (h : Dq w0 w ns zs qs (p :: q :: bs)) : Dq w0 w ns zs qs (q :: p :: bs):=by
 refine ⟨h.lq.swap, ?_, fun r hr => h.ge r (by simp only [List.mem_cons] at hr ⊢; rcases hr with h | h | h <;> simp [h])⟩
 have:=h.nodup
 simp only [List.map_cons, List.nodup_cons, List.mem_cons, not_or] at this ⊢
 exact ⟨⟨fun e => this.1.1 e.symm, this.2.1⟩, this.1.2, this.2.2⟩
theorem Dq.n1 {g k : Nat} {t t' : TypeId} {cs cs' : Array Value} (h : Dq w0 w ns zs qs ((g, t, cs) :: (k, t', cs') :: bs)) : k ≠ w.heap.size ∧ w.heap.size ≠ k ∧ k ≠ w.heap.size + 1 ∧ w.heap.size + 1 ≠ k ∧ k < w.heap.size:=by
 have:=(h.lq.bs (k, t', cs') (by simp)).lt
 simp only at this
 omega
theorem Dq.n01 {g k : Nat} {t t' : TypeId} {cs cs' : Array Value} (h : Dq w0 w ns zs qs ((g, t, cs) :: (k, t', cs') :: bs)) : g ≠ k ∧ k ≠ g:=by
 have:=h.nodup
 simp only [List.map_cons, List.nodup_cons, List.mem_cons, not_or] at this
 exact ⟨this.1.1, fun e => this.1.1 e.symm⟩
end

section
variable {w0 w : World} {ns : List (Value × Nat)} {zs : List (Value × Int)} {qs : List (Value × Int × Nat)} {a1 a2 : Int} {d1 d2 : Nat} {A1 A2 B1 B2 : Option Addr} {c1 c2 k1 k2 : Nat}
end

end Go.Proofs.YtiddbhhhmeopeaaGreatDoor


/- Words for dyadics: a struct of an integer and an exponent; what Make returns. -/
namespace Go.Proofs.YtiddbhhhmeopeaaGreatDoor
set_option maxHeartbeats 64000000
open Go.RowKit
set_option linter.unusedVariables false
set_option linter.unusedSimpArgs false
set_option maxRecDepth 100000
def IsD (w : World) (v : Value) (m e : Int) : Prop:=∃ s, v = .agg #[.bool (ng m), s, .int .i64 e] ∧ IsN w s m.natAbs
theorem IsD.mono {w w' : World} {v : Value} {m e : Int} (h : IsD w v m e) (hb : Below w.heap.size w w') : IsD w' v m e:=by
 obtain ⟨s, r, hs⟩:=h
 exact ⟨s, r, hs.mono hb⟩
theorem IsD.form {w : World} {v : Value} {m e : Int} (h : IsD w v m e) : ∃ A c, v = .agg #[.bool (ng m), .slice A (zl m) c, .int .i64 e] ∧ IsZ w (.agg #[.bool (ng m), .slice A (zl m) c]) m ∧ IsN w (.slice A (zl m) c) m.natAbs:=by
 obtain ⟨s, r, hs⟩:=h
 obtain ⟨A, c, e1⟩:=hs.form
 subst e1
 exact ⟨A, c, r, ⟨_, rfl, hs⟩, hs⟩
theorem isD_n {w : World} {s : Value} {m e : Int} (h : IsN w s m.natAbs) : IsD w (.agg #[.bool (ng m), s, .int .i64 e]) m e:=⟨s, rfl, h⟩
theorem isD_z {w : World} {s : Value} {m e : Int} (h : IsZ w (.agg #[.bool (ng m), s]) m) : IsD w (.agg #[.bool (ng m), s, .int .i64 e]) m e:=by
 obtain ⟨s', r, hs⟩:=h
 have : s = s':=by simpa using r
 subst this
 exact ⟨s, rfl, hs⟩
theorem isD_zero (w : World) : IsD w (.agg #[.bool false, .slice none 0 0, .int .i64 0]) 0 0:=⟨_, rfl, IsN.zero w⟩
theorem plainD (b : Bool) (A : Option Addr) (n c : Nat) (e : Int) : Plain #[.bool b, .slice A n c, .int .i64 e]:=fun j x => by
 match j with
 | 0 => simp
 | 1 => simp
 | 2 => simp
 | j + 3 => simp
section
variable {w0 w : World} {ns : List (Value × Nat)} {zs : List (Value × Int)} {qs : List (Value × Int × Nat)} {bs : List (Nat × TypeId × Array Value)}
theorem Lq.varD (h : Lq w0 w ns zs qs bs) (g : Nat) (hg : g = w.heap.size) (b : Bool) (A : Option Addr) (n c : Nat) (e : Int) : Lq w0 (w.alloc (.cells #[.bool b, .slice A n c, .int .i64 e] 26)) ns zs qs ((g, 26, #[.bool b, .slice A n c, .int .i64 e]) :: bs):=h.var g hg _ _ (plainD _ _ _ _ _)
theorem Lq.putD {g : Nat} {b : Bool} {s t : Value} (h : Lq w0 w ns zs qs ((g, 26, #[.bool b, s, t]) :: bs)) (hg : w0.heap.size ≤ g) (hd : ∀ p ∈ bs, p.1 ≠ g) (b' : Bool) (A : Option Addr) (n c : Nat) (e : Int) :
  Lq w0 (put3 w g b' (.slice A n c) (.int .i64 e)) ns zs qs ((g, 26, #[.bool b', .slice A n c, .int .i64 e]) :: bs):=
 ((h.set hg hd 0 (.bool b') (by intro x e; cases e)).set hg hd 1 (.slice A n c) (by intro x e; cases e)).set hg hd 2 (.int .i64 e) (by intro x e; cases e)
end
def RetD8 (w : World) (m e : Int) (en : Ending) (w' : World) : Prop:=∃ v, en = .returned v ∧ IsD w' v m e ∧ Below w.heap.size w w'
def RetDE (w : World) (m e er : Int) (en : Ending) (w' : World) : Prop:=∃ v, en = .returned (.tuple #[v, .int .i64 er]) ∧ IsD w' v m e ∧ Below w.heap.size w w'
def oddM (m : Int) : Int:=sg (ng m) (m.natAbs / 2 ^ tz m.natAbs)
def oddE (m e : Int) : Int:=e + (tz m.natAbs : Int)
def fits8 (m e : Int) : Bool:=decide (blen m.natAbs ≤ 65536) && (decide (-65536 ≤ e) && (decide (e ≤ 65536) && bitB m.natAbs 0))
def mkR (m e : Int) : Int:=if e < -131072 ∨ 131072 < e then 1 else if m = 0 then 0 else if fits8 (oddM m) (oddE m e) then 0 else 3
def mkM (m e : Int) : Int:=if mkR m e = 0 then oddM m else 0
def mkE (m e : Int) : Int:=if m = 0 then 0 else if mkR m e = 0 then oddE m e else 0
theorem oddM_zero : oddM 0 = 0:=by unfold oddM; simp [sg]
theorem oddM_abs (m : Int) : (oddM m).natAbs = m.natAbs / 2 ^ tz m.natAbs:=sg_abs _ _
theorem oddM_pos {m : Int} (h : m ≠ 0) : 0 < (oddM m).natAbs:=by
 rw [oddM_abs]
 obtain ⟨k, hk⟩:=tz_form (x:=m.natAbs) (by omega)
 have h2 : 0 < 2 ^ tz m.natAbs:=Nat.pow_pos (by omega)
 refine Nat.div_pos ?_ h2
 have : 2 ^ tz m.natAbs * 1 ≤ 2 ^ tz m.natAbs * (2 * k + 1):=Nat.mul_le_mul_left _ (by omega)
 omega
theorem zl_odd (m : Int) : zl (oddM m) ≤ zl m:=by
 unfold zl
 rw [oddM_abs]
 exact len_mono (Nat.div_le_self _ _)

end Go.Proofs.YtiddbhhhmeopeaaGreatDoor


/- A new variable that holds a dyadic, made in a statement that draws its order. -/
namespace Go.Proofs.YtiddbhhhmeopeaaGreatDoor
set_option maxHeartbeats 64000000
open Go.RowKit
set_option linter.unusedVariables false
set_option linter.unusedSimpArgs false
set_option maxRecDepth 100000

section
variable {w0 w : World} {ns : List (Value × Nat)} {zs : List (Value × Int)} {qs : List (Value × Int × Nat)} {bs : List (Nat × TypeId × Array Value)}
theorem Dq.boxD (h : Dq w0 w ns zs qs bs) (b : Bool) (A : Option Addr) (n c : Nat) (e : Int) : Dq w0 (w.alloc (.cells #[.bool b, .slice A n c, .int .i64 e] 26)) ns zs qs ((w.heap.size, 26, #[.bool b, .slice A n c, .int .i64 e]) :: bs):=by
 refine ⟨h.lq.varD w.heap.size rfl b A n c e, ?_, fun p hp => ?_⟩
 ·rw [List.map_cons, List.nodup_cons]
  refine ⟨fun hm => ?_, h.nodup⟩
  obtain ⟨p, hp, e⟩:=List.mem_map.1 hm
  have:=(h.lq.bs p hp).lt
  omega
 ·rcases List.mem_cons.1 hp with rfl | hp
  ·exact h.lq.below.size
  ·exact h.ge p hp
theorem Dq.boxMD (h : Dq w0 w ns zs qs bs) {k : Nat} (hk : w.heap.size = k) (b : Bool) (A : Option Addr) (n c : Nat) (e : Int) : Dq w0 (w.alloc (.cells #[.bool b, .slice A n c, .int .i64 e] 26)) ns zs qs ((k, 26, #[.bool b, .slice A n c, .int .i64 e]) :: bs):=by
 subst hk; exact h.boxD b A n c e
theorem Dq.putD (g : Nat) {b : Bool} {s t : Value} (h : Dq w0 w ns zs qs ((g, 26, #[.bool b, s, t]) :: bs)) (b' : Bool) (A : Option Addr) (n c : Nat) (e : Int) : Dq w0 (put3 w g b' (.slice A n c) (.int .i64 e)) ns zs qs ((g, 26, #[.bool b', .slice A n c, .int .i64 e]) :: bs):=by
 have hn:=h.nodup
 rw [List.map_cons, List.nodup_cons] at hn
 refine ⟨h.lq.putD (h.ge _ (List.mem_cons_self ..)) (fun p hp e => hn.1 (List.mem_map.2 ⟨p, hp, e⟩)) b' A n c e, ?_, fun p hp => ?_⟩
 ·rw [List.map_cons, List.nodup_cons]; exact hn
 ·rcases List.mem_cons.1 hp with rfl | hp
  ·exact h.ge (g, 26, #[.bool b, s, t]) (List.mem_cons_self ..)
  ·exact h.ge p (List.mem_cons_of_mem _ hp)
end
def Made1D (w0 : World) (m e : Int) (s : Value) (w' : World) : Prop:=∃ g A c, s = .pointer (some ⟨g, 0, none⟩) ∧ w0.heap.size ≤ g ∧ Below w0.heap.size w0 w' ∧ Var w' g 26 #[.bool (ng m), .slice A (zl m) c, .int .i64 e] ∧ IsN w' (.slice A (zl m) c) m.natAbs
section
variable {w0 w : World} {ns : List (Value × Nat)} {zs : List (Value × Int)} {qs : List (Value × Int × Nat)} {m e : Int} {c : Nat} {A : Option Addr}
theorem made1d_of {w' : World} {g : Nat} (D : Dq w0 w' ns zs qs [(g, 26, #[.bool (ng m), .slice A (zl m) c, .int .i64 e])]) (h : (.slice A (zl m) c, m.natAbs) ∈ ns) : Made1D w0 m e (.pointer (some ⟨g, 0, none⟩)) w':=
 ⟨g, A, c, rfl, D.ge _ (List.mem_cons_self ..), D.lq.below, D.lq.b0, D.getN h⟩
theorem made1d_a (D : Dq w0 w ns zs qs []) (h : (.slice A (zl m) c, m.natAbs) ∈ ns) :
  Made1D w0 m e (.pointer (some ⟨w.heap.size, 0, none⟩)) (w.alloc (.cells #[.bool (ng m), .slice A (zl m) c, .int .i64 e] 26)):=made1d_of (D.boxD _ _ _ _ _) h
theorem made1d_b {g : Nat} {b : Bool} {s t : Value} (D : Dq w0 w ns zs qs [(g, 26, #[.bool b, s, t])]) (h : (.slice A (zl m) c, m.natAbs) ∈ ns) :
  Made1D w0 m e (.pointer (some ⟨g, 0, none⟩)) (((w.setCell ⟨g, 0, none⟩ (.bool (ng m))).setCell ⟨g, 1, none⟩ (.slice A (zl m) c)).setCell ⟨g, 2, none⟩ (.int .i64 e)):=made1d_of (D.putD g (ng m) A (zl m) c e) h
end

end Go.Proofs.YtiddbhhhmeopeaaGreatDoor

