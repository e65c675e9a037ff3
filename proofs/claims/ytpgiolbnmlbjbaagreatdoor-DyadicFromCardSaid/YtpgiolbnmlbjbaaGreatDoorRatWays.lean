/- A new variable that holds a fraction, made in a statement that draws its order. -/
import Derived.Test.YtpgiolbnmlbjbaaGreatDoorRatA
import Derived.Test.YtpgiolbnmlbjbaaGreatDoorBaseI
namespace Go.Proofs.YtpgiolbnmlbjbaaGreatDoor
open Go.RowKit
set_option linter.unusedVariables false
set_option linter.unusedSimpArgs false
set_option maxRecDepth 100000

/-- What is known, with each variable in a block of its own, made since the start. -/
structure Dq (w0 w : World) (ns : List (Value × Nat)) (zs : List (Value × Int)) (qs : List (Value × Int × Nat)) (bs : List (Nat × TypeId × Array Value)) : Prop where
  lq : Lq w0 w ns zs qs bs
  nodup : (bs.map (·.1)).Nodup
  ge : ∀ p ∈ bs, w0.heap.size ≤ p.1
section
variable {w0 w : World} {ns : List (Value × Nat)} {zs : List (Value × Int)} {qs : List (Value × Int × Nat)} {bs : List (Nat × TypeId × Array Value)}
theorem Dq.step {w' : World} (h : Dq w0 w ns zs qs bs) (hb : Below w.heap.size w w') : Dq w0 w' ns zs qs bs := ⟨h.lq.step hb, h.nodup, h.ge⟩
theorem Dq.drew (h : Dq w0 w ns zs qs bs) : Dq w0 w.drew ns zs qs bs := h.step ((Below.refl _ _).drew)
theorem Dq.z (h : Dq w0 w ns zs qs bs) {v : Value} {x : Int} (hv : IsZ w v x) : Dq w0 w ns ((v, x) :: zs) qs bs := ⟨h.lq.z hv, h.nodup, h.ge⟩
theorem Dq.q (h : Dq w0 w ns zs qs bs) {v : Value} {a : Int} {d : Nat} (hv : IsP w v a d) : Dq w0 w ns zs ((v, a, d) :: qs) bs := ⟨h.lq.q hv, h.nodup, h.ge⟩
theorem Dq.getN (h : Dq w0 w ns zs qs bs) {v : Value} {x : Nat} (hp : (v, x) ∈ ns) : IsN w v x := h.lq.getN hp
theorem Dq.getZ (h : Dq w0 w ns zs qs bs) {v : Value} {x : Int} (hp : (v, x) ∈ zs) : IsZ w v x := h.lq.getZ hp
theorem Dq.getQ (h : Dq w0 w ns zs qs bs) {v : Value} {a : Int} {d : Nat} (hp : (v, a, d) ∈ qs) : IsP w v a d := h.lq.getQ hp
theorem Dq.box (h : Dq w0 w ns zs qs bs) (b : Bool) (A B : Option Addr) (n c m d : Nat) : Dq w0 (w.alloc (.cells #[.bool b, .slice A n c, .slice B m d] 44)) ns zs qs ((w.heap.size, 44, #[.bool b, .slice A n c, .slice B m d]) :: bs) := by
  refine ⟨h.lq.varQ w.heap.size rfl b A B n c m d, ?_, fun p hp => ?_⟩
  · rw [List.map_cons, List.nodup_cons]
    refine ⟨fun hm => ?_, h.nodup⟩
    obtain ⟨p, hp, e⟩ := List.mem_map.1 hm
    have := (h.lq.bs p hp).lt
    omega
  · rcases List.mem_cons.1 hp with rfl | hp
    · exact h.lq.below.size
    · exact h.ge p hp
theorem Dq.boxM (h : Dq w0 w ns zs qs bs) {k : Nat} (hk : w.heap.size = k) (b : Bool) (A B : Option Addr) (n c m d : Nat) : Dq w0 (w.alloc (.cells #[.bool b, .slice A n c, .slice B m d] 44)) ns zs qs ((k, 44, #[.bool b, .slice A n c, .slice B m d]) :: bs) := by
  subst hk; exact h.box b A B n c m d
theorem Dq.put (g : Nat) {b : Bool} {s t : Value} (h : Dq w0 w ns zs qs ((g, 44, #[.bool b, s, t]) :: bs)) (b' : Bool) (A B : Option Addr) (n c m d : Nat) : Dq w0 (put3 w g b' (.slice A n c) (.slice B m d)) ns zs qs ((g, 44, #[.bool b', .slice A n c, .slice B m d]) :: bs) := by
  have hn := h.nodup
  rw [List.map_cons, List.nodup_cons] at hn
  refine ⟨h.lq.putQ (h.ge _ (List.mem_cons_self ..)) (fun p hp e => hn.1 (List.mem_map.2 ⟨p, hp, e⟩)) b' A B n c m d, ?_, fun p hp => ?_⟩
  · rw [List.map_cons, List.nodup_cons]; exact hn
  · rcases List.mem_cons.1 hp with rfl | hp
    · exact h.ge (g, 44, #[.bool b, s, t]) (List.mem_cons_self ..)
    · exact h.ge p (List.mem_cons_of_mem _ hp)
theorem Dq.n0 {g : Nat} {t : TypeId} {cs : Array Value} (h : Dq w0 w ns zs qs ((g, t, cs) :: bs)) : g ≠ w.heap.size ∧ w.heap.size ≠ g ∧ g ≠ w.heap.size + 1 ∧ w.heap.size + 1 ≠ g ∧ g < w.heap.size := by
  have := (h.lq.bs (g, t, cs) (List.mem_cons_self ..)).lt
  simp only at this
  omega
end

/-- A new variable, with its fraction (a pair). -/
def Made1Q (w0 : World) (a : Int) (d : Nat) (s : Value) (w' : World) : Prop := ∃ g A c B k, s = .pointer (some ⟨g, 0, none⟩) ∧ w0.heap.size ≤ g ∧ Below w0.heap.size w0 w' ∧ Var w' g 44 #[.bool (ng a), .slice A (zl a) c, .slice B (len d) k] ∧ IsP w' (.agg #[.bool (ng a), .slice A (zl a) c, .slice B (len d) k]) a d
section
variable {w0 w : World} {ns : List (Value × Nat)} {zs : List (Value × Int)} {qs : List (Value × Int × Nat)} {a : Int} {d c k : Nat} {A B : Option Addr}
theorem made1q_of {w' : World} {g : Nat} (D : Dq w0 w' ns zs qs [(g, 44, #[.bool (ng a), .slice A (zl a) c, .slice B (len d) k])]) (h : (.agg #[.bool (ng a), .slice A (zl a) c, .slice B (len d) k], a, d) ∈ qs) : Made1Q w0 a d (.pointer (some ⟨g, 0, none⟩)) w' :=
  ⟨g, A, c, B, k, rfl, D.ge _ (List.mem_cons_self ..), D.lq.below, D.lq.b0, D.getQ h⟩
theorem made1q_a (D : Dq w0 w ns zs qs []) (h : (.agg #[.bool (ng a), .slice A (zl a) c, .slice B (len d) k], a, d) ∈ qs) :
    Made1Q w0 a d (.pointer (some ⟨w.heap.size, 0, none⟩)) (w.alloc (.cells #[.bool (ng a), .slice A (zl a) c, .slice B (len d) k] 44)) := made1q_of (D.box _ _ _ _ _ _ _) h
theorem made1q_b {g : Nat} {b : Bool} {s t : Value} (D : Dq w0 w ns zs qs [(g, 44, #[.bool b, s, t])]) (h : (.agg #[.bool (ng a), .slice A (zl a) c, .slice B (len d) k], a, d) ∈ qs) :
    Made1Q w0 a d (.pointer (some ⟨g, 0, none⟩)) (((w.setCell ⟨g, 0, none⟩ (.bool (ng a))).setCell ⟨g, 1, none⟩ (.slice A (zl a) c)).setCell ⟨g, 2, none⟩ (.slice B (len d) k)) := made1q_of (D.put g (ng a) A B (zl a) c (len d) k) h
end

end Go.Proofs.YtpgiolbnmlbjbaaGreatDoor
