/- Two new variables that hold fractions, made in one statement, in whatever order. -/
import Derived.Test.YtpgiolbnmlbjbaaGreatDoorRatWays
namespace Go.Proofs.YtpgiolbnmlbjbaaGreatDoor
open Go.RowKit
set_option linter.unusedVariables false
set_option linter.unusedSimpArgs false
set_option maxRecDepth 100000
attribute [local go_sem ↓] Go.wp_at_zero Go.wp_at_succ

section
variable {w0 w : World} {ns : List (Value × Nat)} {zs : List (Value × Int)} {qs : List (Value × Int × Nat)} {bs : List (Nat × TypeId × Array Value)}
theorem Dq.alloc (h : Dq w0 w ns zs qs bs) (o : Obj) : Dq w0 (w.alloc o) ns zs qs bs := h.step ((Below.refl w.heap.size w).alloc (Nat.le_refl _) o)
theorem Dq.box2 (h : Dq w0 w ns zs qs bs) (b : Bool) (A B : Option Addr) (n c m d : Nat) (b' : Bool) (A' B' : Option Addr) (n' c' m' d' : Nat) : Dq w0 ((w.alloc (.cells #[.bool b, .slice A n c, .slice B m d] 44)).alloc (.cells #[.bool b', .slice A' n' c', .slice B' m' d'] 44)) ns zs qs ((w.heap.size + 1, 44, #[.bool b', .slice A' n' c', .slice B' m' d']) :: (w.heap.size, 44, #[.bool b, .slice A n c, .slice B m d]) :: bs) := by
  have := (h.box b A B n c m d).box b' A' B' n' c' m' d'
  rwa [show (w.alloc (.cells #[.bool b, .slice A n c, .slice B m d] 44)).heap.size = w.heap.size + 1 from by simp] at this
theorem Dq.boxM2 (h : Dq w0 w ns zs qs bs) {k : Nat} (hk : w.heap.size = k) (b : Bool) (A B : Option Addr) (n c m d : Nat) (b' : Bool) (A' B' : Option Addr) (n' c' m' d' : Nat) : Dq w0 ((w.alloc (.cells #[.bool b, .slice A n c, .slice B m d] 44)).alloc (.cells #[.bool b', .slice A' n' c', .slice B' m' d'] 44)) ns zs qs ((k + 1, 44, #[.bool b', .slice A' n' c', .slice B' m' d']) :: (k, 44, #[.bool b, .slice A n c, .slice B m d]) :: bs) := by
  subst hk; exact h.box2 b A B n c m d b' A' B' n' c' m' d'
theorem Dq.swap {p q : Nat × TypeId × Array Value} (h : Dq w0 w ns zs qs (p :: q :: bs)) : Dq w0 w ns zs qs (q :: p :: bs) := by
  refine ⟨h.lq.swap, ?_, fun r hr => h.ge r (by simp only [List.mem_cons] at hr ⊢; rcases hr with h | h | h <;> simp [h])⟩
  have := h.nodup
  simp only [List.map_cons, List.nodup_cons, List.mem_cons, not_or] at this ⊢
  exact ⟨⟨fun e => this.1.1 e.symm, this.2.1⟩, this.1.2, this.2.2⟩
theorem Dq.n1 {g k : Nat} {t t' : TypeId} {cs cs' : Array Value} (h : Dq w0 w ns zs qs ((g, t, cs) :: (k, t', cs') :: bs)) : k ≠ w.heap.size ∧ w.heap.size ≠ k ∧ k ≠ w.heap.size + 1 ∧ w.heap.size + 1 ≠ k ∧ k < w.heap.size := by
  have := (h.lq.bs (k, t', cs') (by simp)).lt
  simp only at this
  omega
theorem Dq.n01 {g k : Nat} {t t' : TypeId} {cs cs' : Array Value} (h : Dq w0 w ns zs qs ((g, t, cs) :: (k, t', cs') :: bs)) : g ≠ k ∧ k ≠ g := by
  have := h.nodup
  simp only [List.map_cons, List.nodup_cons, List.mem_cons, not_or] at this
  exact ⟨this.1.1, fun e => this.1.1 e.symm⟩
theorem put3_size (w : World) (g : Nat) (b : Bool) (s u : Value) : (put3 w g b s u).heap.size = w.heap.size := by
  unfold put3
  simp
end

/-- Two new variables, each with its fraction. -/
def Made2Q (w0 : World) (a1 : Int) (d1 : Nat) (a2 : Int) (d2 : Nat) (s1 s2 : Value) (w' : World) : Prop := ∃ g1 g2 A1 B1 c1 k1 A2 B2 c2 k2, s1 = (.pointer (some ⟨g1, 0, none⟩)) ∧ s2 = (.pointer (some ⟨g2, 0, none⟩)) ∧ Below w0.heap.size w0 w' ∧ Var w' g1 44 #[.bool (ng a1), .slice A1 (zl a1) c1, .slice B1 (len d1) k1] ∧ Var w' g2 44 #[.bool (ng a2), .slice A2 (zl a2) c2, .slice B2 (len d2) k2] ∧ IsP w' (.agg #[.bool (ng a1), .slice A1 (zl a1) c1, .slice B1 (len d1) k1]) a1 d1 ∧ IsP w' (.agg #[.bool (ng a2), .slice A2 (zl a2) c2, .slice B2 (len d2) k2]) a2 d2
section
variable {w0 w : World} {ns : List (Value × Nat)} {zs : List (Value × Int)} {qs : List (Value × Int × Nat)} {a1 a2 : Int} {d1 d2 : Nat} {A1 A2 B1 B2 : Option Addr} {c1 c2 k1 k2 : Nat}
theorem made2q_of {w' : World} {g1 g2 : Nat} (D : Dq w0 w' ns zs qs [(g1, 44, #[.bool (ng a1), .slice A1 (zl a1) c1, .slice B1 (len d1) k1]), (g2, 44, #[.bool (ng a2), .slice A2 (zl a2) c2, .slice B2 (len d2) k2])]) (h1 : (.agg #[.bool (ng a1), .slice A1 (zl a1) c1, .slice B1 (len d1) k1], a1, d1) ∈ qs) (h2 : (.agg #[.bool (ng a2), .slice A2 (zl a2) c2, .slice B2 (len d2) k2], a2, d2) ∈ qs) : Made2Q w0 a1 d1 a2 d2 (.pointer (some ⟨g1, 0, none⟩)) (.pointer (some ⟨g2, 0, none⟩)) w' :=
  ⟨g1, g2, A1, B1, c1, k1, A2, B2, c2, k2, rfl, rfl, D.lq.below, D.lq.b0, D.lq.tl.b0, D.getQ h1, D.getQ h2⟩
theorem made2q_a (D : Dq w0 w ns zs qs []) (h1 : (.agg #[.bool (ng a1), .slice A1 (zl a1) c1, .slice B1 (len d1) k1], a1, d1) ∈ qs) (h2 : (.agg #[.bool (ng a2), .slice A2 (zl a2) c2, .slice B2 (len d2) k2], a2, d2) ∈ qs) : Made2Q w0 a1 d1 a2 d2 (.pointer (some ⟨w.heap.size, 0, none⟩)) (.pointer (some ⟨w.heap.size + 1, 0, none⟩)) ((w.alloc (.cells #[.bool (ng a1), .slice A1 (zl a1) c1, .slice B1 (len d1) k1] 44)).alloc (.cells #[.bool (ng a2), .slice A2 (zl a2) c2, .slice B2 (len d2) k2] 44)) :=
  made2q_of (D.box2 _ _ _ _ _ _ _ _ _ _ _ _ _ _).swap h1 h2
theorem made2q_b (D : Dq w0 w ns zs qs []) (h1 : (.agg #[.bool (ng a1), .slice A1 (zl a1) c1, .slice B1 (len d1) k1], a1, d1) ∈ qs) (h2 : (.agg #[.bool (ng a2), .slice A2 (zl a2) c2, .slice B2 (len d2) k2], a2, d2) ∈ qs) : Made2Q w0 a1 d1 a2 d2 (.pointer (some ⟨w.heap.size + 1, 0, none⟩)) (.pointer (some ⟨w.heap.size, 0, none⟩)) ((w.alloc (.cells #[.bool (ng a2), .slice A2 (zl a2) c2, .slice B2 (len d2) k2] 44)).alloc (.cells #[.bool (ng a1), .slice A1 (zl a1) c1, .slice B1 (len d1) k1] 44)) :=
  made2q_of (D.box2 _ _ _ _ _ _ _ _ _ _ _ _ _ _) h1 h2
theorem made2q_c {g : Nat} {b : Bool} {s u : Value} (D : Dq w0 w ns zs qs [(g, 44, #[.bool b, s, u])]) (h1 : (.agg #[.bool (ng a1), .slice A1 (zl a1) c1, .slice B1 (len d1) k1], a1, d1) ∈ qs) (h2 : (.agg #[.bool (ng a2), .slice A2 (zl a2) c2, .slice B2 (len d2) k2], a2, d2) ∈ qs) : Made2Q w0 a1 d1 a2 d2 (.pointer (some ⟨g, 0, none⟩)) (.pointer (some ⟨w.heap.size, 0, none⟩)) ((((w.setCell ⟨g, 0, none⟩ (.bool (ng a1))).setCell ⟨g, 1, none⟩ (.slice A1 (zl a1) c1)).setCell ⟨g, 2, none⟩ (.slice B1 (len d1) k1)).alloc (.cells #[.bool (ng a2), .slice A2 (zl a2) c2, .slice B2 (len d2) k2] 44)) :=
  made2q_of ((D.put g (ng a1) A1 B1 (zl a1) c1 (len d1) k1).boxM (put3_size _ _ _ _ _) _ _ _ _ _ _ _).swap h1 h2
theorem made2q_d {g : Nat} {b : Bool} {s u : Value} (D : Dq w0 w ns zs qs [(g, 44, #[.bool b, s, u])]) (h1 : (.agg #[.bool (ng a1), .slice A1 (zl a1) c1, .slice B1 (len d1) k1], a1, d1) ∈ qs) (h2 : (.agg #[.bool (ng a2), .slice A2 (zl a2) c2, .slice B2 (len d2) k2], a2, d2) ∈ qs) : Made2Q w0 a1 d1 a2 d2 (.pointer (some ⟨w.heap.size, 0, none⟩)) (.pointer (some ⟨g, 0, none⟩)) ((((w.setCell ⟨g, 0, none⟩ (.bool (ng a2))).setCell ⟨g, 1, none⟩ (.slice A2 (zl a2) c2)).setCell ⟨g, 2, none⟩ (.slice B2 (len d2) k2)).alloc (.cells #[.bool (ng a1), .slice A1 (zl a1) c1, .slice B1 (len d1) k1] 44)) :=
  made2q_of ((D.put g (ng a2) A2 B2 (zl a2) c2 (len d2) k2).boxM (put3_size _ _ _ _ _) _ _ _ _ _ _ _) h1 h2
theorem made2q_e {g k : Nat} {b b' : Bool} {s u s' u' : Value} (D : Dq w0 w ns zs qs [(k, 44, #[.bool b', s', u']), (g, 44, #[.bool b, s, u])]) (h1 : (.agg #[.bool (ng a1), .slice A1 (zl a1) c1, .slice B1 (len d1) k1], a1, d1) ∈ qs) (h2 : (.agg #[.bool (ng a2), .slice A2 (zl a2) c2, .slice B2 (len d2) k2], a2, d2) ∈ qs) : Made2Q w0 a1 d1 a2 d2 (.pointer (some ⟨g, 0, none⟩)) (.pointer (some ⟨k, 0, none⟩)) ((((((w.setCell ⟨g, 0, none⟩ (.bool (ng a1))).setCell ⟨g, 1, none⟩ (.slice A1 (zl a1) c1)).setCell ⟨g, 2, none⟩ (.slice B1 (len d1) k1)).setCell ⟨k, 0, none⟩ (.bool (ng a2))).setCell ⟨k, 1, none⟩ (.slice A2 (zl a2) c2)).setCell ⟨k, 2, none⟩ (.slice B2 (len d2) k2)) :=
  made2q_of ((D.swap.put g (ng a1) A1 B1 (zl a1) c1 (len d1) k1).swap.put k (ng a2) A2 B2 (zl a2) c2 (len d2) k2).swap h1 h2
theorem made2q_f {g k : Nat} {b b' : Bool} {s u s' u' : Value} (D : Dq w0 w ns zs qs [(g, 44, #[.bool b, s, u]), (k, 44, #[.bool b', s', u'])]) (h1 : (.agg #[.bool (ng a1), .slice A1 (zl a1) c1, .slice B1 (len d1) k1], a1, d1) ∈ qs) (h2 : (.agg #[.bool (ng a2), .slice A2 (zl a2) c2, .slice B2 (len d2) k2], a2, d2) ∈ qs) : Made2Q w0 a1 d1 a2 d2 (.pointer (some ⟨g, 0, none⟩)) (.pointer (some ⟨k, 0, none⟩)) ((((((w.setCell ⟨g, 0, none⟩ (.bool (ng a1))).setCell ⟨g, 1, none⟩ (.slice A1 (zl a1) c1)).setCell ⟨g, 2, none⟩ (.slice B1 (len d1) k1)).setCell ⟨k, 0, none⟩ (.bool (ng a2))).setCell ⟨k, 1, none⟩ (.slice A2 (zl a2) c2)).setCell ⟨k, 2, none⟩ (.slice B2 (len d2) k2)) :=
  made2q_of ((D.put g (ng a1) A1 B1 (zl a1) c1 (len d1) k1).swap.put k (ng a2) A2 B2 (zl a2) c2 (len d2) k2).swap h1 h2
end

end Go.Proofs.YtpgiolbnmlbjbaaGreatDoor
