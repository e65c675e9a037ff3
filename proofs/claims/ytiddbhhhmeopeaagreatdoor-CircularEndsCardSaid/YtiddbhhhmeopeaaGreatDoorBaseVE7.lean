/- Base texts, joined: IvA, IvMath, IvWays, IntTwo, ArMath, ArA, ArTwoE, IvTwo. -/
import Derived.Test.YtiddbhhhmeopeaaGreatDoorBaseDE7
import Derived.Test.YtiddbhhhmeopeaaGreatDoorBaseME7
/- Words for intervals: a struct of two dyadics. -/
namespace Go.Proofs.YtiddbhhhmeopeaaGreatDoor
set_option maxHeartbeats 64000000
open Go.RowKit
set_option linter.unusedVariables false
set_option linter.unusedSimpArgs false
set_option maxRecDepth 100000
attribute [local go_sem ↓] Go.wp_at_zero Go.wp_at_succ
def IsI (w : World) (v : Value) (m e n f : Int) : Prop:=∃ s t, v = .agg #[.bool (ng m), s, .int .i64 e, .bool (ng n), t, .int .i64 f] ∧ IsN w s m.natAbs ∧ IsN w t n.natAbs
theorem IsI.mono {w w' : World} {v : Value} {m e n f : Int} (h : IsI w v m e n f) (hb : Below w.heap.size w w') : IsI w' v m e n f:=by
 obtain ⟨s, t, r, hs, ht⟩:=h
 exact ⟨s, t, r, hs.mono hb, ht.mono hb⟩
theorem IsI.form {w : World} {v : Value} {m e n f : Int} (h : IsI w v m e n f) : ∃ A c B d, v = .agg #[.bool (ng m), .slice A (zl m) c, .int .i64 e, .bool (ng n), .slice B (zl n) d, .int .i64 f] ∧ IsN w (.slice A (zl m) c) m.natAbs ∧ IsN w (.slice B (zl n) d) n.natAbs:=by
 obtain ⟨s, t, r, hs, ht⟩:=h
 obtain ⟨A, c, e1⟩:=hs.form
 obtain ⟨B, d, e2⟩:=ht.form
 subst e1 e2
 exact ⟨A, c, B, d, r, hs, ht⟩
theorem isI_n {w : World} {s t : Value} {m e n f : Int} (h : IsN w s m.natAbs) (h2 : IsN w t n.natAbs) : IsI w (.agg #[.bool (ng m), s, .int .i64 e, .bool (ng n), t, .int .i64 f]) m e n f:=⟨s, t, rfl, h, h2⟩
theorem isI_zero (w : World) : IsI w (.agg #[.bool false, .slice none 0 0, .int .i64 0, .bool false, .slice none 0 0, .int .i64 0]) 0 0 0 0:=⟨_, _, rfl, IsN.zero w, IsN.zero w⟩
theorem plain6 (b : Bool) (A : Option Addr) (p c : Nat) (e : Int) (b' : Bool) (B : Option Addr) (q d : Nat) (f : Int) : Plain #[.bool b, .slice A p c, .int .i64 e, .bool b', .slice B q d, .int .i64 f]:=fun j x => by
 match j with
 | 0 => simp
 | 1 => simp
 | 2 => simp
 | 3 => simp
 | 4 => simp
 | 5 => simp
 | j + 6 => simp
def put6 (w : World) (g : Nat) (b : Bool) (s t : Value) (b' : Bool) (s' t' : Value) : World:=(((((w.setCell ⟨g, 0, none⟩ (.bool b)).setCell ⟨g, 1, none⟩ s).setCell ⟨g, 2, none⟩ t).setCell ⟨g, 3, none⟩ (.bool b')).setCell ⟨g, 4, none⟩ s').setCell ⟨g, 5, none⟩ t'
section
variable {w0 w : World} {ns : List (Value × Nat)} {zs : List (Value × Int)} {qs : List (Value × Int × Nat)} {bs : List (Nat × TypeId × Array Value)}
theorem Lq.varI (h : Lq w0 w ns zs qs bs) (g : Nat) (hg : g = w.heap.size) (b : Bool) (A : Option Addr) (p c : Nat) (e : Int) (b' : Bool) (B : Option Addr) (q d : Nat) (f : Int) : Lq w0 (w.alloc (.cells #[.bool b, .slice A p c, .int .i64 e, .bool b', .slice B q d, .int .i64 f] 28)) ns zs qs ((g, 28, #[.bool b, .slice A p c, .int .i64 e, .bool b', .slice B q d, .int .i64 f]) :: bs):=h.var g hg _ _ (plain6 _ _ _ _ _ _ _ _ _ _)
theorem Lq.putI {g : Nat} {b b' : Bool} {s t s' t' : Value} (h : Lq w0 w ns zs qs ((g, 28, #[.bool b, s, t, .bool b', s', t']) :: bs)) (hg : w0.heap.size ≤ g) (hd : ∀ p ∈ bs, p.1 ≠ g) (b1 : Bool) (A : Option Addr) (p c : Nat) (e : Int) (b2 : Bool) (B : Option Addr) (q d : Nat) (f : Int) :
  Lq w0 (put6 w g b1 (.slice A p c) (.int .i64 e) b2 (.slice B q d) (.int .i64 f)) ns zs qs ((g, 28, #[.bool b1, .slice A p c, .int .i64 e, .bool b2, .slice B q d, .int .i64 f]) :: bs):=
 (((((h.set hg hd 0 (.bool b1) (by intro x e; cases e)).set hg hd 1 (.slice A p c) (by intro x e; cases e)).set hg hd 2 (.int .i64 e) (by intro x e; cases e)).set hg hd 3 (.bool b2) (by intro x e; cases e)).set hg hd 4 (.slice B q d) (by intro x e; cases e)).set hg hd 5 (.int .i64 f) (by intro x e; cases e)
end
theorem Var.c60 {w : World} {g : Nat} {ty : TypeId} {x0 x1 x2 x3 x4 x5 : Value} (h : Var w g ty #[x0, x1, x2, x3, x4, x5]) : w.cell? ⟨g, 0, none⟩ = some x0:=h.cell 0
theorem Var.c61 {w : World} {g : Nat} {ty : TypeId} {x0 x1 x2 x3 x4 x5 : Value} (h : Var w g ty #[x0, x1, x2, x3, x4, x5]) : w.cell? ⟨g, 1, none⟩ = some x1:=h.cell 1
theorem Var.c62 {w : World} {g : Nat} {ty : TypeId} {x0 x1 x2 x3 x4 x5 : Value} (h : Var w g ty #[x0, x1, x2, x3, x4, x5]) : w.cell? ⟨g, 2, none⟩ = some x2:=h.cell 2
theorem Var.c63 {w : World} {g : Nat} {ty : TypeId} {x0 x1 x2 x3 x4 x5 : Value} (h : Var w g ty #[x0, x1, x2, x3, x4, x5]) : w.cell? ⟨g, 3, none⟩ = some x3:=h.cell 3
theorem Var.c64 {w : World} {g : Nat} {ty : TypeId} {x0 x1 x2 x3 x4 x5 : Value} (h : Var w g ty #[x0, x1, x2, x3, x4, x5]) : w.cell? ⟨g, 4, none⟩ = some x4:=h.cell 4
theorem Var.c65 {w : World} {g : Nat} {ty : TypeId} {x0 x1 x2 x3 x4 x5 : Value} (h : Var w g ty #[x0, x1, x2, x3, x4, x5]) : w.cell? ⟨g, 5, none⟩ = some x5:=h.cell 5
def RetI6 (w : World) (m e n f : Int) (en : Ending) (w' : World) : Prop:=∃ v, en = .returned v ∧ IsI w' v m e n f ∧ Below w.heap.size w w'
def RetIV (w : World) (m e n f : Int) (b : Bool) (en : Ending) (w' : World) : Prop:=∃ v, en = .returned (.tuple #[v, .bool b]) ∧ IsI w' v m e n f ∧ Below w.heap.size w w'
def RetIE (w : World) (m e n f er : Int) (en : Ending) (w' : World) : Prop:=∃ v, en = .returned (.tuple #[v, .int .i64 er]) ∧ IsI w' v m e n f ∧ Below w.heap.size w w'
def dcm (m e n f : Int) : Int:=cmpI (m * 2 ^ (e - min e f).toNat) (n * 2 ^ (f - min e f).toNat)


end Go.Proofs.YtiddbhhhmeopeaaGreatDoor


/- Intervals of dyadics: how ends lie, as fractions. -/
namespace Go.Proofs.YtiddbhhhmeopeaaGreatDoor
set_option maxHeartbeats 64000000
open Go.RowKit
set_option linter.unusedVariables false
set_option linter.unusedSimpArgs false
set_option maxRecDepth 100000
attribute [local go_sem ↓] Go.wp_at_zero Go.wp_at_succ

theorem dq_le_iff (C D F : Int) : dq C F ≤ dq D F ↔ C ≤ D:=by
 rw [dq_scale C, dq_scale D]
 constructor
 ·intro h
  exact Rat.intCast_le_intCast.1 (Rat.le_of_mul_le_mul_right h (dq_pos F))
 ·intro h
  exact Rat.mul_le_mul_of_nonneg_right (Rat.intCast_le_intCast.2 h) (Rat.le_of_lt (dq_pos F))
theorem cmpI_le (a b : Int) : cmpI a b ≤ 0 ↔ a ≤ b:=by
 unfold cmpI
 (repeat' split) <;> omega
theorem dcm_le (m e n f : Int) : dcm m e n f ≤ 0 ↔ dq m e ≤ dq n f:=by
 have h1 : dq m e = dq (m * 2 ^ (e - min e f).toNat) (min e f):=dq_eq (F:=min e f) (by rw [show min e f - min e f = 0 by omega]; simp) (by omega) (by omega)
 have h2 : dq n f = dq (n * 2 ^ (f - min e f).toNat) (min e f):=dq_eq (F:=min e f) (by rw [show min e f - min e f = 0 by omega]; simp) (by omega) (by omega)
 rw [h1, h2, dq_le_iff]
 exact cmpI_le _ _
theorem dcm_swap (m e n f : Int) : dcm n f m e = -dcm m e n f:=by
 unfold dcm
 rw [Int.min_comm f e]
 exact cmpI_neg _ _
theorem dcm_ge (m e n f : Int) : 0 ≤ dcm m e n f ↔ dq n f ≤ dq m e:=by
 rw [← dcm_le, dcm_swap]
 omega
theorem dcm_lt (m e n f : Int) : dcm m e n f < 0 ↔ dq m e < dq n f:=by
 rw [← Rat.not_le, ← dcm_ge]
 omega
theorem dcm_self (m e : Int) : dcm m e m e = 0:=by
 unfold dcm
 exact cmpI_eq _
theorem dcm_eq {m e n f : Int} (h1 : Dv m e) (h2 : Dv n f) : dcm m e n f = 0 ↔ (m = n ∧ e = f):=by
 have h:=cmp_same h1 h2
 rw [Bool.eq_iff_iff, Bool.and_eq_true, decide_eq_true_iff, decide_eq_true_iff, decide_eq_true_iff] at h
 unfold dcm
 rw [h]
 exact ⟨fun h => ⟨h.2, h.1⟩, fun h => ⟨h.2, h.1⟩⟩
def lstD (m e n f : Int) : Int × Int:=if dcm m e n f ≤ 0 then (m, e) else (n, f)
def gstD (m e n f : Int) : Int × Int:=if 0 ≤ dcm m e n f then (m, e) else (n, f)
theorem lstD_dv {m e n f : Int} (h1 : Dv m e) (h2 : Dv n f) : Dv (lstD m e n f).1 (lstD m e n f).2:=by
 unfold lstD; split <;> assumption
theorem gstD_dv {m e n f : Int} (h1 : Dv m e) (h2 : Dv n f) : Dv (gstD m e n f).1 (gstD m e n f).2:=by
 unfold gstD; split <;> assumption
theorem lstD_zl {m e n f : Int} {k : Nat} (h1 : zl m ≤ k) (h2 : zl n ≤ k) : zl (lstD m e n f).1 ≤ k:=by
 unfold lstD; split <;> assumption
theorem gstD_zl {m e n f : Int} {k : Nat} (h1 : zl m ≤ k) (h2 : zl n ≤ k) : zl (gstD m e n f).1 ≤ k:=by
 unfold gstD; split <;> assumption
theorem lstD_in {m e n f a b : Int} (h1 : a ≤ e ∧ e ≤ b) (h2 : a ≤ f ∧ f ≤ b) : a ≤ (lstD m e n f).2 ∧ (lstD m e n f).2 ≤ b:=by
 unfold lstD; split <;> assumption
theorem gstD_in {m e n f a b : Int} (h1 : a ≤ e ∧ e ≤ b) (h2 : a ≤ f ∧ f ≤ b) : a ≤ (gstD m e n f).2 ∧ (gstD m e n f).2 ≤ b:=by
 unfold gstD; split <;> assumption
theorem lstD_le (m e n f : Int) : dq (lstD m e n f).1 (lstD m e n f).2 ≤ dq m e ∧ dq (lstD m e n f).1 (lstD m e n f).2 ≤ dq n f:=by
 unfold lstD
 split
 ·rename_i h
  exact ⟨Rat.le_refl, (dcm_le _ _ _ _).1 h⟩
 ·rename_i h
  refine ⟨(dcm_le n f m e).1 ?_, Rat.le_refl⟩
  rw [dcm_swap m e n f]; omega
theorem gstD_le (m e n f : Int) : dq m e ≤ dq (gstD m e n f).1 (gstD m e n f).2 ∧ dq n f ≤ dq (gstD m e n f).1 (gstD m e n f).2:=by
 unfold gstD
 split
 ·rename_i h
  exact ⟨Rat.le_refl, (dcm_ge _ _ _ _).1 h⟩
 ·rename_i h
  exact ⟨(dcm_le m e n f).1 (by omega), Rat.le_refl⟩
theorem lstD_or (m e n f : Int) : lstD m e n f = (m, e) ∨ lstD m e n f = (n, f):=by
 unfold lstD; split <;> simp
theorem gstD_or (m e n f : Int) : gstD m e n f = (m, e) ∨ gstD m e n f = (n, f):=by
 unfold gstD; split <;> simp
def inB (m e n f m' e' n' f' : Int) : Bool:=decide (dcm m' e' m e ≤ 0) && decide (dcm n f n' f' ≤ 0)
theorem inB_iff (m e n f m' e' n' f' : Int) : inB m e n f m' e' n' f' = true ↔ dq m' e' ≤ dq m e ∧ dq n f ≤ dq n' f':=by
 unfold inB
 rw [Bool.and_eq_true, decide_eq_true_iff, decide_eq_true_iff, dcm_le, dcm_le]
end Go.Proofs.YtiddbhhhmeopeaaGreatDoor


/- A new variable that holds an interval, made in a statement that draws its order. -/
namespace Go.Proofs.YtiddbhhhmeopeaaGreatDoor
set_option maxHeartbeats 64000000
open Go.RowKit
set_option linter.unusedVariables false
set_option linter.unusedSimpArgs false
set_option maxRecDepth 100000
attribute [local go_sem ↓] Go.wp_at_zero Go.wp_at_succ

section
variable {w0 w : World} {ns : List (Value × Nat)} {zs : List (Value × Int)} {qs : List (Value × Int × Nat)} {bs : List (Nat × TypeId × Array Value)}
theorem Dq.boxI (h : Dq w0 w ns zs qs bs) (b : Bool) (A : Option Addr) (p c : Nat) (e : Int) (b' : Bool) (B : Option Addr) (q d : Nat) (f : Int) : Dq w0 (w.alloc (.cells #[.bool b, .slice A p c, .int .i64 e, .bool b', .slice B q d, .int .i64 f] 28)) ns zs qs ((w.heap.size, 28, #[.bool b, .slice A p c, .int .i64 e, .bool b', .slice B q d, .int .i64 f]) :: bs):=by
 refine ⟨h.lq.varI w.heap.size rfl b A p c e b' B q d f, ?_, fun p hp => ?_⟩
 ·rw [List.map_cons, List.nodup_cons]
  refine ⟨fun hm => ?_, h.nodup⟩
  obtain ⟨p, hp, e⟩:=List.mem_map.1 hm
  have:=(h.lq.bs p hp).lt
  omega
 ·rcases List.mem_cons.1 hp with rfl | hp
  ·exact h.lq.below.size
  ·exact h.ge p hp
theorem Dq.boxMI (h : Dq w0 w ns zs qs bs) {k : Nat} (hk : w.heap.size = k) (b : Bool) (A : Option Addr) (p c : Nat) (e : Int) (b' : Bool) (B : Option Addr) (q d : Nat) (f : Int) : Dq w0 (w.alloc (.cells #[.bool b, .slice A p c, .int .i64 e, .bool b', .slice B q d, .int .i64 f] 28)) ns zs qs ((k, 28, #[.bool b, .slice A p c, .int .i64 e, .bool b', .slice B q d, .int .i64 f]) :: bs):=by
 subst hk; exact h.boxI b A p c e b' B q d f
theorem Dq.putI (g : Nat) {b1 b2 : Bool} {s t s' t' : Value} (h : Dq w0 w ns zs qs ((g, 28, #[.bool b1, s, t, .bool b2, s', t']) :: bs)) (b : Bool) (A : Option Addr) (p c : Nat) (e : Int) (b' : Bool) (B : Option Addr) (q d : Nat) (f : Int) : Dq w0 (put6 w g b (.slice A p c) (.int .i64 e) b' (.slice B q d) (.int .i64 f)) ns zs qs ((g, 28, #[.bool b, .slice A p c, .int .i64 e, .bool b', .slice B q d, .int .i64 f]) :: bs):=by
 have hn:=h.nodup
 rw [List.map_cons, List.nodup_cons] at hn
 refine ⟨h.lq.putI (h.ge _ (List.mem_cons_self ..)) (fun p hp e => hn.1 (List.mem_map.2 ⟨p, hp, e⟩)) b A p c e b' B q d f, ?_, fun p hp => ?_⟩
 ·rw [List.map_cons, List.nodup_cons]; exact hn
 ·rcases List.mem_cons.1 hp with rfl | hp
  ·exact h.ge (g, 28, #[.bool b1, s, t, .bool b2, s', t']) (List.mem_cons_self ..)
  ·exact h.ge p (List.mem_cons_of_mem _ hp)
end
def Made1I (w0 : World) (m e n f : Int) (s : Value) (w' : World) : Prop:=∃ g A c B d, s = .pointer (some ⟨g, 0, none⟩) ∧ w0.heap.size ≤ g ∧ Below w0.heap.size w0 w' ∧ Var w' g 28 #[.bool (ng m), .slice A (zl m) c, .int .i64 e, .bool (ng n), .slice B (zl n) d, .int .i64 f] ∧ IsN w' (.slice A (zl m) c) m.natAbs ∧ IsN w' (.slice B (zl n) d) n.natAbs
section
variable {w0 w : World} {ns : List (Value × Nat)} {zs : List (Value × Int)} {qs : List (Value × Int × Nat)} {m e n f : Int} {c d : Nat} {A B : Option Addr}
theorem made1i_of {w' : World} {g : Nat} (D : Dq w0 w' ns zs qs [(g, 28, #[.bool (ng m), .slice A (zl m) c, .int .i64 e, .bool (ng n), .slice B (zl n) d, .int .i64 f])]) (h : (.slice A (zl m) c, m.natAbs) ∈ ns) (h2 : (.slice B (zl n) d, n.natAbs) ∈ ns) : Made1I w0 m e n f (.pointer (some ⟨g, 0, none⟩)) w':=
 ⟨g, A, c, B, d, rfl, D.ge _ (List.mem_cons_self ..), D.lq.below, D.lq.b0, D.getN h, D.getN h2⟩
theorem made1i_a (D : Dq w0 w ns zs qs []) (h : (.slice A (zl m) c, m.natAbs) ∈ ns) (h2 : (.slice B (zl n) d, n.natAbs) ∈ ns) :
  Made1I w0 m e n f (.pointer (some ⟨w.heap.size, 0, none⟩)) (w.alloc (.cells #[.bool (ng m), .slice A (zl m) c, .int .i64 e, .bool (ng n), .slice B (zl n) d, .int .i64 f] 28)):=made1i_of (D.boxI _ _ _ _ _ _ _ _ _ _) h h2
theorem made1i_b {g : Nat} {b1 b2 : Bool} {s t s' t' : Value} (D : Dq w0 w ns zs qs [(g, 28, #[.bool b1, s, t, .bool b2, s', t'])]) (h : (.slice A (zl m) c, m.natAbs) ∈ ns) (h2 : (.slice B (zl n) d, n.natAbs) ∈ ns) :
  Made1I w0 m e n f (.pointer (some ⟨g, 0, none⟩)) ((((((w.setCell ⟨g, 0, none⟩ (.bool (ng m))).setCell ⟨g, 1, none⟩ (.slice A (zl m) c)).setCell ⟨g, 2, none⟩ (.int .i64 e)).setCell ⟨g, 3, none⟩ (.bool (ng n))).setCell ⟨g, 4, none⟩ (.slice B (zl n) d)).setCell ⟨g, 5, none⟩ (.int .i64 f)):=made1i_of (D.putI g (ng m) A (zl m) c e (ng n) B (zl n) d f) h h2
end

end Go.Proofs.YtiddbhhhmeopeaaGreatDoor


/- Two new variables that hold integers, made in one statement, in whatever order; where they lie. -/
namespace Go.Proofs.YtiddbhhhmeopeaaGreatDoor
set_option maxHeartbeats 64000000
open Go.RowKit
set_option linter.unusedVariables false
set_option linter.unusedSimpArgs false
set_option maxRecDepth 100000
attribute [local go_sem ↓] Go.wp_at_zero Go.wp_at_succ

section
variable {w0 w : World} {ns : List (Value × Nat)} {zs : List (Value × Int)} {qs : List (Value × Int × Nat)} {bs : List (Nat × TypeId × Array Value)}
theorem Dq.boxZ2 (h : Dq w0 w ns zs qs bs) (b : Bool) (A : Option Addr) (n c : Nat) (b' : Bool) (A' : Option Addr) (n' c' : Nat) : Dq w0 ((w.alloc (.cells #[.bool b, .slice A n c] 24)).alloc (.cells #[.bool b', .slice A' n' c'] 24)) ns zs qs ((w.heap.size + 1, 24, #[.bool b', .slice A' n' c']) :: (w.heap.size, 24, #[.bool b, .slice A n c]) :: bs):=by
 have:=(h.boxZ b A n c).boxZ b' A' n' c'
 rwa [show (w.alloc (.cells #[.bool b, .slice A n c] 24)).heap.size = w.heap.size + 1 from by simp] at this
theorem Dq.boxMZ2 (h : Dq w0 w ns zs qs bs) {k : Nat} (hk : w.heap.size = k) (b : Bool) (A : Option Addr) (n c : Nat) (b' : Bool) (A' : Option Addr) (n' c' : Nat) : Dq w0 ((w.alloc (.cells #[.bool b, .slice A n c] 24)).alloc (.cells #[.bool b', .slice A' n' c'] 24)) ns zs qs ((k + 1, 24, #[.bool b', .slice A' n' c']) :: (k, 24, #[.bool b, .slice A n c]) :: bs):=by
 subst hk; exact h.boxZ2 b A n c b' A' n' c'
theorem put2_size (w : World) (g : Nat) (b : Bool) (s : Value) : (put2 w g b s).heap.size = w.heap.size:=by
 unfold put2
 simp
end
def Made2Z (w0 : World) (a1 a2 : Int) (s1 s2 : Value) (w' : World) : Prop:=∃ g1 g2 A1 c1 A2 c2, s1 = (.pointer (some ⟨g1, 0, none⟩)) ∧ s2 = (.pointer (some ⟨g2, 0, none⟩)) ∧ w0.heap.size ≤ g1 ∧ w0.heap.size ≤ g2 ∧ g1 ≠ g2 ∧ Below w0.heap.size w0 w' ∧ Var w' g1 24 #[.bool (ng a1), .slice A1 (zl a1) c1] ∧ Var w' g2 24 #[.bool (ng a2), .slice A2 (zl a2) c2] ∧ IsZ w' (.agg #[.bool (ng a1), .slice A1 (zl a1) c1]) a1 ∧ IsZ w' (.agg #[.bool (ng a2), .slice A2 (zl a2) c2]) a2
section
variable {w0 w : World} {ns : List (Value × Nat)} {zs : List (Value × Int)} {qs : List (Value × Int × Nat)} {a1 a2 : Int} {A1 A2 : Option Addr} {c1 c2 : Nat}
theorem made2z_of {w' : World} {g1 g2 : Nat} (D : Dq w0 w' ns zs qs [(g1, 24, #[.bool (ng a1), .slice A1 (zl a1) c1]), (g2, 24, #[.bool (ng a2), .slice A2 (zl a2) c2])]) (h1 : (.agg #[.bool (ng a1), .slice A1 (zl a1) c1], a1) ∈ zs) (h2 : (.agg #[.bool (ng a2), .slice A2 (zl a2) c2], a2) ∈ zs) : Made2Z w0 a1 a2 (.pointer (some ⟨g1, 0, none⟩)) (.pointer (some ⟨g2, 0, none⟩)) w':=
 ⟨g1, g2, A1, c1, A2, c2, rfl, rfl, D.ge _ (List.mem_cons_self ..), D.swap.ge _ (List.mem_cons_self ..), D.n01.1, D.lq.below, D.lq.b0, D.lq.tl.b0, D.getZ h1, D.getZ h2⟩
theorem made2z_a (D : Dq w0 w ns zs qs []) (h1 : (.agg #[.bool (ng a1), .slice A1 (zl a1) c1], a1) ∈ zs) (h2 : (.agg #[.bool (ng a2), .slice A2 (zl a2) c2], a2) ∈ zs) : Made2Z w0 a1 a2 (.pointer (some ⟨w.heap.size, 0, none⟩)) (.pointer (some ⟨w.heap.size + 1, 0, none⟩)) ((w.alloc (.cells #[.bool (ng a1), .slice A1 (zl a1) c1] 24)).alloc (.cells #[.bool (ng a2), .slice A2 (zl a2) c2] 24)):=
 made2z_of (D.boxZ2 _ _ _ _ _ _ _ _).swap h1 h2
theorem made2z_b (D : Dq w0 w ns zs qs []) (h1 : (.agg #[.bool (ng a1), .slice A1 (zl a1) c1], a1) ∈ zs) (h2 : (.agg #[.bool (ng a2), .slice A2 (zl a2) c2], a2) ∈ zs) : Made2Z w0 a1 a2 (.pointer (some ⟨w.heap.size + 1, 0, none⟩)) (.pointer (some ⟨w.heap.size, 0, none⟩)) ((w.alloc (.cells #[.bool (ng a2), .slice A2 (zl a2) c2] 24)).alloc (.cells #[.bool (ng a1), .slice A1 (zl a1) c1] 24)):=
 made2z_of (D.boxZ2 _ _ _ _ _ _ _ _) h1 h2
theorem made2z_c {g : Nat} {b : Bool} {s : Value} (D : Dq w0 w ns zs qs [(g, 24, #[.bool b, s])]) (h1 : (.agg #[.bool (ng a1), .slice A1 (zl a1) c1], a1) ∈ zs) (h2 : (.agg #[.bool (ng a2), .slice A2 (zl a2) c2], a2) ∈ zs) : Made2Z w0 a1 a2 (.pointer (some ⟨g, 0, none⟩)) (.pointer (some ⟨w.heap.size, 0, none⟩)) (((w.setCell ⟨g, 0, none⟩ (.bool (ng a1))).setCell ⟨g, 1, none⟩ (.slice A1 (zl a1) c1)).alloc (.cells #[.bool (ng a2), .slice A2 (zl a2) c2] 24)):=
 made2z_of ((D.putZ g (ng a1) A1 (zl a1) c1).boxMZ (put2_size _ _ _ _) _ _ _ _).swap h1 h2
theorem made2z_d {g : Nat} {b : Bool} {s : Value} (D : Dq w0 w ns zs qs [(g, 24, #[.bool b, s])]) (h1 : (.agg #[.bool (ng a1), .slice A1 (zl a1) c1], a1) ∈ zs) (h2 : (.agg #[.bool (ng a2), .slice A2 (zl a2) c2], a2) ∈ zs) : Made2Z w0 a1 a2 (.pointer (some ⟨w.heap.size, 0, none⟩)) (.pointer (some ⟨g, 0, none⟩)) (((w.setCell ⟨g, 0, none⟩ (.bool (ng a2))).setCell ⟨g, 1, none⟩ (.slice A2 (zl a2) c2)).alloc (.cells #[.bool (ng a1), .slice A1 (zl a1) c1] 24)):=
 made2z_of ((D.putZ g (ng a2) A2 (zl a2) c2).boxMZ (put2_size _ _ _ _) _ _ _ _) h1 h2
theorem made2z_e {g k : Nat} {b b' : Bool} {s s' : Value} (D : Dq w0 w ns zs qs [(k, 24, #[.bool b', s']), (g, 24, #[.bool b, s])]) (h1 : (.agg #[.bool (ng a1), .slice A1 (zl a1) c1], a1) ∈ zs) (h2 : (.agg #[.bool (ng a2), .slice A2 (zl a2) c2], a2) ∈ zs) : Made2Z w0 a1 a2 (.pointer (some ⟨g, 0, none⟩)) (.pointer (some ⟨k, 0, none⟩)) ((((w.setCell ⟨g, 0, none⟩ (.bool (ng a1))).setCell ⟨g, 1, none⟩ (.slice A1 (zl a1) c1)).setCell ⟨k, 0, none⟩ (.bool (ng a2))).setCell ⟨k, 1, none⟩ (.slice A2 (zl a2) c2)):=
 made2z_of ((D.swap.putZ g (ng a1) A1 (zl a1) c1).swap.putZ k (ng a2) A2 (zl a2) c2).swap h1 h2
theorem made2z_f {g k : Nat} {b b' : Bool} {s s' : Value} (D : Dq w0 w ns zs qs [(g, 24, #[.bool b, s]), (k, 24, #[.bool b', s'])]) (h1 : (.agg #[.bool (ng a1), .slice A1 (zl a1) c1], a1) ∈ zs) (h2 : (.agg #[.bool (ng a2), .slice A2 (zl a2) c2], a2) ∈ zs) : Made2Z w0 a1 a2 (.pointer (some ⟨g, 0, none⟩)) (.pointer (some ⟨k, 0, none⟩)) ((((w.setCell ⟨g, 0, none⟩ (.bool (ng a1))).setCell ⟨g, 1, none⟩ (.slice A1 (zl a1) c1)).setCell ⟨k, 0, none⟩ (.bool (ng a2))).setCell ⟨k, 1, none⟩ (.slice A2 (zl a2) c2)):=
 made2z_of ((D.putZ g (ng a1) A1 (zl a1) c1).swap.putZ k (ng a2) A2 (zl a2) c2).swap h1 h2
end

end Go.Proofs.YtiddbhhhmeopeaaGreatDoor


/- Arithmetic of intervals of fractions: sums, products, quotients of what lies between two ends. -/
namespace Go.Proofs.YtiddbhhhmeopeaaGreatDoor
set_option maxHeartbeats 64000000
open Go.RowKit
set_option linter.unusedVariables false
set_option linter.unusedSimpArgs false
set_option maxRecDepth 100000
attribute [local go_sem ↓] Go.wp_at_zero Go.wp_at_succ

def rmin (x y : Rat) : Rat:=if x ≤ y then x else y
def rmax (x y : Rat) : Rat:=if x ≤ y then y else x
theorem rmin_l (x y : Rat) : rmin x y ≤ x:=by
 unfold rmin
 split
 ·exact Rat.le_refl
 ·rename_i h
  exact (Rat.le_total (a:=x) (b:=y)).resolve_left h
theorem rmin_r (x y : Rat) : rmin x y ≤ y:=by
 unfold rmin
 split
 ·rename_i h; exact h
 ·exact Rat.le_refl
theorem rmax_l (x y : Rat) : x ≤ rmax x y:=by
 unfold rmax
 split
 ·rename_i h; exact h
 ·exact Rat.le_refl
theorem rmax_r (x y : Rat) : y ≤ rmax x y:=by
 unfold rmax
 split
 ·exact Rat.le_refl
 ·rename_i h
  exact (Rat.le_total (a:=x) (b:=y)).resolve_left h
theorem rmin_or (x y : Rat) : rmin x y = x ∨ rmin x y = y:=by
 unfold rmin; split <;> simp
theorem rmax_or (x y : Rat) : rmax x y = x ∨ rmax x y = y:=by
 unfold rmax; split <;> simp
theorem le_rmin {z x y : Rat} (h1 : z ≤ x) (h2 : z ≤ y) : z ≤ rmin x y:=by
 rcases rmin_or x y with h | h <;> rw [h] <;> assumption
theorem rmax_le {z x y : Rat} (h1 : x ≤ z) (h2 : y ≤ z) : rmax x y ≤ z:=by
 rcases rmax_or x y with h | h <;> rw [h] <;> assumption
theorem mul_nn {a b y : Rat} (h : a ≤ b) (hy : 0 ≤ y) : a * y ≤ b * y:=Rat.mul_le_mul_of_nonneg_right h hy
theorem mul_np {a b y : Rat} (h : a ≤ b) (hy : y ≤ 0) : b * y ≤ a * y:=by
 have h1 : (0 : Rat) ≤ -y:=by
  have:=Rat.neg_le_neg hy
  rwa [Rat.neg_zero] at this
 have h2:=Rat.neg_le_neg (mul_nn h h1)
 rwa [Rat.mul_neg, Rat.mul_neg, Rat.neg_neg, Rat.neg_neg] at h2
def min4 (a b c d : Rat) : Rat:=rmin (rmin a b) (rmin c d)
def max4 (a b c d : Rat) : Rat:=rmax (rmax a b) (rmax c d)
theorem min4_le (a b c d : Rat) : min4 a b c d ≤ a ∧ min4 a b c d ≤ b ∧ min4 a b c d ≤ c ∧ min4 a b c d ≤ d:=
 ⟨Rat.le_trans (rmin_l _ _) (rmin_l _ _), Rat.le_trans (rmin_l _ _) (rmin_r _ _), Rat.le_trans (rmin_r _ _) (rmin_l _ _), Rat.le_trans (rmin_r _ _) (rmin_r _ _)⟩
theorem le_max4 (a b c d : Rat) : a ≤ max4 a b c d ∧ b ≤ max4 a b c d ∧ c ≤ max4 a b c d ∧ d ≤ max4 a b c d:=
 ⟨Rat.le_trans (rmax_l _ _) (rmax_l _ _), Rat.le_trans (rmax_r _ _) (rmax_l _ _), Rat.le_trans (rmax_l _ _) (rmax_r _ _), Rat.le_trans (rmax_r _ _) (rmax_r _ _)⟩
theorem le_min4 {z a b c d : Rat} (h1 : z ≤ a) (h2 : z ≤ b) (h3 : z ≤ c) (h4 : z ≤ d) : z ≤ min4 a b c d:=le_rmin (le_rmin h1 h2) (le_rmin h3 h4)
theorem max4_le {z a b c d : Rat} (h1 : a ≤ z) (h2 : b ≤ z) (h3 : c ≤ z) (h4 : d ≤ z) : max4 a b c d ≤ z:=rmax_le (rmax_le h1 h2) (rmax_le h3 h4)
theorem inv_pos {x : Rat} (h : 0 < x) : 0 < x⁻¹:=Rat.inv_pos.2 h
theorem inv_anti {x y : Rat} (hx : 0 < x) (h : x ≤ y) : y⁻¹ ≤ x⁻¹:=by
 have hy : 0 < y:=rle_lt hx h
 have h1:=mul_nn h (Rat.le_of_lt (inv_pos hx))
 rw [Rat.mul_inv_cancel x (fun e => by rw [e] at hx; exact Rat.not_le.2 hx Rat.le_refl)] at h1
 have h2:=mul_nn h1 (Rat.le_of_lt (inv_pos hy))
 rw [Rat.one_mul, Rat.mul_comm y, Rat.mul_assoc, Rat.mul_inv_cancel y (fun e => by rw [e] at hy; exact Rat.not_le.2 hy Rat.le_refl), Rat.mul_one] at h2
 exact h2


end Go.Proofs.YtiddbhhhmeopeaaGreatDoor


/- Words for pairs of fractions (an array of two). -/
namespace Go.Proofs.YtiddbhhhmeopeaaGreatDoor
set_option maxHeartbeats 64000000
open Go.RowKit
set_option linter.unusedVariables false
set_option linter.unusedSimpArgs false
set_option maxRecDepth 100000
attribute [local go_sem ↓] Go.wp_at_zero Go.wp_at_succ
def IsE (w : World) (v : Value) (a : Int) (d : Nat) (b : Int) (q : Nat) : Prop:=∃ s t s' t', v = .agg #[.bool (ng a), s, t, .bool (ng b), s', t'] ∧ IsN w s a.natAbs ∧ IsN w t d ∧ IsN w s' b.natAbs ∧ IsN w t' q
theorem IsE.mono {w w' : World} {v : Value} {a b : Int} {d q : Nat} (h : IsE w v a d b q) (hb : Below w.heap.size w w') : IsE w' v a d b q:=by
 obtain ⟨s, t, s', t', r, h1, h2, h3, h4⟩:=h
 exact ⟨s, t, s', t', r, h1.mono hb, h2.mono hb, h3.mono hb, h4.mono hb⟩
section
variable {w0 w : World} {ns : List (Value × Nat)} {zs : List (Value × Int)} {qs : List (Value × Int × Nat)} {bs : List (Nat × TypeId × Array Value)}
end
end Go.Proofs.YtiddbhhhmeopeaaGreatDoor


/- Two new variables, each a pair of fractions, made in one statement, in whatever order. -/
namespace Go.Proofs.YtiddbhhhmeopeaaGreatDoor
set_option maxHeartbeats 64000000
open Go.RowKit
set_option linter.unusedVariables false
set_option linter.unusedSimpArgs false
set_option maxRecDepth 100000
attribute [local go_sem ↓] Go.wp_at_zero Go.wp_at_succ

section
variable {w0 w : World} {ns : List (Value × Nat)} {zs : List (Value × Int)} {qs : List (Value × Int × Nat)} {bs : List (Nat × TypeId × Array Value)}
end
section
variable {w0 w : World} {ns : List (Value × Nat)} {zs : List (Value × Int)} {qs : List (Value × Int × Nat)} {a1 a2 a3 a4 : Int} {d1 d2 d3 d4 : Nat} {A1 A2 A3 A4 B1 B2 B3 B4 : Option Addr} {c1 c2 c3 c4 k1 k2 k3 k4 : Nat}
end

end Go.Proofs.YtiddbhhhmeopeaaGreatDoor


/- Two new intervals made in one statement, in whatever order. -/
namespace Go.Proofs.YtiddbhhhmeopeaaGreatDoor
set_option maxHeartbeats 64000000
open Go.RowKit
set_option linter.unusedVariables false
set_option linter.unusedSimpArgs false
set_option maxRecDepth 100000
attribute [local go_sem ↓] Go.wp_at_zero Go.wp_at_succ

section
variable {w0 w : World} {ns : List (Value × Nat)} {zs : List (Value × Int)} {qs : List (Value × Int × Nat)} {bs : List (Nat × TypeId × Array Value)}
end
section
variable {w0 w : World} {ns : List (Value × Nat)} {zs : List (Value × Int)} {qs : List (Value × Int × Nat)} {m1 e1 n1 f1 m2 e2 n2 f2 : Int} {A1 A2 B1 B2 : Option Addr} {c1 c2 d1 d2 : Nat}
end

end Go.Proofs.YtiddbhhhmeopeaaGreatDoor

