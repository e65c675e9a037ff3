/- A new variable that holds an integer, beside fractions, made in a statement that draws its order. -/
import Derived.Test.YtpgiolbnmlbjbaaGreatDoorRatWays
import Derived.Deep.RegionHeld3
import Derived.Deep.DrawnRows
namespace Go.Proofs.YtpgiolbnmlbjbaaGreatDoor
open Go.RowKit
set_option linter.unusedVariables false
set_option linter.unusedSimpArgs false
set_option maxRecDepth 100000
attribute [local go_sem ↓] Go.wp_at_zero Go.wp_at_succ

section
variable {w0 w : World} {ns : List (Value × Nat)} {zs : List (Value × Int)} {qs : List (Value × Int × Nat)} {bs : List (Nat × TypeId × Array Value)}
theorem Dq.n (h : Dq w0 w ns zs qs bs) {v : Value} {x : Nat} (hv : IsN w v x) : Dq w0 w ((v, x) :: ns) zs qs bs := ⟨h.lq.n hv, h.nodup, h.ge⟩
theorem Dq.boxZ (h : Dq w0 w ns zs qs bs) (b : Bool) (A : Option Addr) (n c : Nat) : Dq w0 (w.alloc (.cells #[.bool b, .slice A n c] 24)) ns zs qs ((w.heap.size, 24, #[.bool b, .slice A n c]) :: bs) := by
  refine ⟨h.lq.varZ w.heap.size rfl b A n c, ?_, fun p hp => ?_⟩
  · rw [List.map_cons, List.nodup_cons]
    refine ⟨fun hm => ?_, h.nodup⟩
    obtain ⟨p, hp, e⟩ := List.mem_map.1 hm
    have := (h.lq.bs p hp).lt
    omega
  · rcases List.mem_cons.1 hp with rfl | hp
    · exact h.lq.below.size
    · exact h.ge p hp
theorem Dq.boxMZ (h : Dq w0 w ns zs qs bs) {k : Nat} (hk : w.heap.size = k) (b : Bool) (A : Option Addr) (n c : Nat) : Dq w0 (w.alloc (.cells #[.bool b, .slice A n c] 24)) ns zs qs ((k, 24, #[.bool b, .slice A n c]) :: bs) := by
  subst hk; exact h.boxZ b A n c
theorem Dq.putZ (g : Nat) {b : Bool} {s : Value} (h : Dq w0 w ns zs qs ((g, 24, #[.bool b, s]) :: bs)) (b' : Bool) (A : Option Addr) (n c : Nat) : Dq w0 (put2 w g b' (.slice A n c)) ns zs qs ((g, 24, #[.bool b', .slice A n c]) :: bs) := by
  have hn := h.nodup
  rw [List.map_cons, List.nodup_cons] at hn
  refine ⟨h.lq.putZ (h.ge _ (List.mem_cons_self ..)) (fun p hp e => hn.1 (List.mem_map.2 ⟨p, hp, e⟩)) b' A n c, ?_, fun p hp => ?_⟩
  · rw [List.map_cons, List.nodup_cons]; exact hn
  · rcases List.mem_cons.1 hp with rfl | hp
    · exact h.ge (g, 24, #[.bool b, s]) (List.mem_cons_self ..)
    · exact h.ge p (List.mem_cons_of_mem _ hp)
end
/-- A new variable, with its integer. -/
def Made1Z (w0 : World) (z : Int) (s : Value) (w' : World) : Prop := ∃ g A c, s = .pointer (some ⟨g, 0, none⟩) ∧ w0.heap.size ≤ g ∧ Below w0.heap.size w0 w' ∧ Var w' g 24 #[.bool (ng z), .slice A (zl z) c] ∧ IsZ w' (.agg #[.bool (ng z), .slice A (zl z) c]) z
section
variable {w0 w : World} {ns : List (Value × Nat)} {zs : List (Value × Int)} {qs : List (Value × Int × Nat)} {z : Int} {c : Nat} {A : Option Addr}
theorem made1z_of {w' : World} {g : Nat} (D : Dq w0 w' ns zs qs [(g, 24, #[.bool (ng z), .slice A (zl z) c])]) (h : (.agg #[.bool (ng z), .slice A (zl z) c], z) ∈ zs) : Made1Z w0 z (.pointer (some ⟨g, 0, none⟩)) w' :=
  ⟨g, A, c, rfl, D.ge _ (List.mem_cons_self ..), D.lq.below, D.lq.b0, D.getZ h⟩
theorem made1z_a (D : Dq w0 w ns zs qs []) (h : (.agg #[.bool (ng z), .slice A (zl z) c], z) ∈ zs) :
    Made1Z w0 z (.pointer (some ⟨w.heap.size, 0, none⟩)) (w.alloc (.cells #[.bool (ng z), .slice A (zl z) c] 24)) := made1z_of (D.boxZ _ _ _ _) h
theorem made1z_b {g : Nat} {b : Bool} {s : Value} (D : Dq w0 w ns zs qs [(g, 24, #[.bool b, s])]) (h : (.agg #[.bool (ng z), .slice A (zl z) c], z) ∈ zs) :
    Made1Z w0 z (.pointer (some ⟨g, 0, none⟩)) ((w.setCell ⟨g, 0, none⟩ (.bool (ng z))).setCell ⟨g, 1, none⟩ (.slice A (zl z) c)) := made1z_of (D.putZ g (ng z) A (zl z) c) h
end

end Go.Proofs.YtpgiolbnmlbjbaaGreatDoor
