/- A new variable that holds a dyadic, made in a statement that draws its order. -/
import Derived.Test.YtpgiolbnmlbjbaaGreatDoorDyA
import Derived.Test.YtpgiolbnmlbjbaaGreatDoorRatWaysZ
namespace Go.Proofs.YtpgiolbnmlbjbaaGreatDoor
open Go.RowKit
set_option linter.unusedVariables false
set_option linter.unusedSimpArgs false
set_option maxRecDepth 100000

section
variable {w0 w : World} {ns : List (Value × Nat)} {zs : List (Value × Int)} {qs : List (Value × Int × Nat)} {bs : List (Nat × TypeId × Array Value)}
theorem Dq.boxD (h : Dq w0 w ns zs qs bs) (b : Bool) (A : Option Addr) (n c : Nat) (e : Int) : Dq w0 (w.alloc (.cells #[.bool b, .slice A n c, .int .i64 e] 26)) ns zs qs ((w.heap.size, 26, #[.bool b, .slice A n c, .int .i64 e]) :: bs) := by
  refine ⟨h.lq.varD w.heap.size rfl b A n c e, ?_, fun p hp => ?_⟩
  · rw [List.map_cons, List.nodup_cons]
    refine ⟨fun hm => ?_, h.nodup⟩
    obtain ⟨p, hp, e⟩ := List.mem_map.1 hm
    have := (h.lq.bs p hp).lt
    omega
  · rcases List.mem_cons.1 hp with rfl | hp
    · exact h.lq.below.size
    · exact h.ge p hp
theorem Dq.boxMD (h : Dq w0 w ns zs qs bs) {k : Nat} (hk : w.heap.size = k) (b : Bool) (A : Option Addr) (n c : Nat) (e : Int) : Dq w0 (w.alloc (.cells #[.bool b, .slice A n c, .int .i64 e] 26)) ns zs qs ((k, 26, #[.bool b, .slice A n c, .int .i64 e]) :: bs) := by
  subst hk; exact h.boxD b A n c e
theorem Dq.putD (g : Nat) {b : Bool} {s t : Value} (h : Dq w0 w ns zs qs ((g, 26, #[.bool b, s, t]) :: bs)) (b' : Bool) (A : Option Addr) (n c : Nat) (e : Int) : Dq w0 (put3 w g b' (.slice A n c) (.int .i64 e)) ns zs qs ((g, 26, #[.bool b', .slice A n c, .int .i64 e]) :: bs) := by
  have hn := h.nodup
  rw [List.map_cons, List.nodup_cons] at hn
  refine ⟨h.lq.putD (h.ge _ (List.mem_cons_self ..)) (fun p hp e => hn.1 (List.mem_map.2 ⟨p, hp, e⟩)) b' A n c e, ?_, fun p hp => ?_⟩
  · rw [List.map_cons, List.nodup_cons]; exact hn
  · rcases List.mem_cons.1 hp with rfl | hp
    · exact h.ge (g, 26, #[.bool b, s, t]) (List.mem_cons_self ..)
    · exact h.ge p (List.mem_cons_of_mem _ hp)
end

/-- A new variable, with its dyadic. -/
def Made1D (w0 : World) (m e : Int) (s : Value) (w' : World) : Prop := ∃ g A c, s = .pointer (some ⟨g, 0, none⟩) ∧ w0.heap.size ≤ g ∧ Below w0.heap.size w0 w' ∧ Var w' g 26 #[.bool (ng m), .slice A (zl m) c, .int .i64 e] ∧ IsN w' (.slice A (zl m) c) m.natAbs
section
variable {w0 w : World} {ns : List (Value × Nat)} {zs : List (Value × Int)} {qs : List (Value × Int × Nat)} {m e : Int} {c : Nat} {A : Option Addr}
theorem made1d_of {w' : World} {g : Nat} (D : Dq w0 w' ns zs qs [(g, 26, #[.bool (ng m), .slice A (zl m) c, .int .i64 e])]) (h : (.slice A (zl m) c, m.natAbs) ∈ ns) : Made1D w0 m e (.pointer (some ⟨g, 0, none⟩)) w' :=
  ⟨g, A, c, rfl, D.ge _ (List.mem_cons_self ..), D.lq.below, D.lq.b0, D.getN h⟩
theorem made1d_a (D : Dq w0 w ns zs qs []) (h : (.slice A (zl m) c, m.natAbs) ∈ ns) :
    Made1D w0 m e (.pointer (some ⟨w.heap.size, 0, none⟩)) (w.alloc (.cells #[.bool (ng m), .slice A (zl m) c, .int .i64 e] 26)) := made1d_of (D.boxD _ _ _ _ _) h
theorem made1d_b {g : Nat} {b : Bool} {s t : Value} (D : Dq w0 w ns zs qs [(g, 26, #[.bool b, s, t])]) (h : (.slice A (zl m) c, m.natAbs) ∈ ns) :
    Made1D w0 m e (.pointer (some ⟨g, 0, none⟩)) (((w.setCell ⟨g, 0, none⟩ (.bool (ng m))).setCell ⟨g, 1, none⟩ (.slice A (zl m) c)).setCell ⟨g, 2, none⟩ (.int .i64 e)) := made1d_of (D.putD g (ng m) A (zl m) c e) h
end

end Go.Proofs.YtpgiolbnmlbjbaaGreatDoor
