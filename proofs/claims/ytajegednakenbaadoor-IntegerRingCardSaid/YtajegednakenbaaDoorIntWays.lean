/- Two new variables made in one statement, in whatever order. -/
import Derived.Test.YtajegednakenbaaDoorIntMath
import Derived.Test.YtajegednakenbaaDoorLits
namespace Go.Proofs.YtajegednakenbaaDoor
open Go.RowKit
set_option linter.unusedVariables false
set_option linter.unusedSimpArgs false

/-- What is known, with each variable in a block of its own, made since the start. -/
structure Dz (w0 w : World) (ns : List (Value × Nat)) (zs : List (Value × Int)) (bs : List (Nat × Bool × Value)) : Prop where
  lz : Lz w0 w ns zs bs
  nodup : (bs.map (·.1)).Nodup
  ge : ∀ p ∈ bs, w0.heap.size ≤ p.1
section
variable {w0 w : World} {ns : List (Value × Nat)} {zs : List (Value × Int)} {bs : List (Nat × Bool × Value)}
theorem Dz.step {w' : World} (h : Dz w0 w ns zs bs) (hb : Below w.heap.size w w') : Dz w0 w' ns zs bs := ⟨h.lz.step hb, h.nodup, h.ge⟩
theorem Dz.z (h : Dz w0 w ns zs bs) {v : Value} {x : Int} (hv : IsZ w v x) : Dz w0 w ns ((v, x) :: zs) bs := ⟨h.lz.z hv, h.nodup, h.ge⟩
theorem Dz.getZ (h : Dz w0 w ns zs bs) {v : Value} {x : Int} (hp : (v, x) ∈ zs) : IsZ w v x := h.lz.getZ hp
theorem Dz.alloc (h : Dz w0 w ns zs bs) (o : Obj) : Dz w0 (w.alloc o) ns zs bs := h.step ((Below.refl w.heap.size w).alloc (Nat.le_refl _) o)
theorem Dz.box (h : Dz w0 w ns zs bs) (b : Bool) (A : Option Addr) (n c : Nat) : Dz w0 (w.alloc (.cells #[.bool b, .slice A n c] 24)) ns zs ((w.heap.size, b, .slice A n c) :: bs) := by
  refine ⟨h.lz.box w.heap.size rfl b A n c, ?_, fun p hp => ?_⟩
  · rw [List.map_cons, List.nodup_cons]
    refine ⟨fun hm => ?_, h.nodup⟩
    obtain ⟨p, hp, e⟩ := List.mem_map.1 hm
    have := (h.lz.bs p hp).lt
    omega
  · rcases List.mem_cons.1 hp with rfl | hp
    · exact h.lz.below.size
    · exact h.ge p hp
theorem Dz.box2 (h : Dz w0 w ns zs bs) (b b' : Bool) (A B : Option Addr) (n c m d : Nat) : Dz w0 ((w.alloc (.cells #[.bool b, .slice A n c] 24)).alloc (.cells #[.bool b', .slice B m d] 24)) ns zs ((w.heap.size + 1, b', .slice B m d) :: (w.heap.size, b, .slice A n c) :: bs) := by
  have := (h.box b A n c).box b' B m d
  rwa [show (w.alloc (.cells #[.bool b, .slice A n c] 24)).heap.size = w.heap.size + 1 from by simp] at this
theorem Dz.boxM (h : Dz w0 w ns zs bs) {m : Nat} (hm : w.heap.size = m) (b : Bool) (A : Option Addr) (n c : Nat) : Dz w0 (w.alloc (.cells #[.bool b, .slice A n c] 24)) ns zs ((m, b, .slice A n c) :: bs) := by
  subst hm; exact h.box b A n c
theorem Dz.boxM2 (h : Dz w0 w ns zs bs) {m' : Nat} (hm : w.heap.size = m') (b b' : Bool) (A B : Option Addr) (n c m d : Nat) : Dz w0 ((w.alloc (.cells #[.bool b, .slice A n c] 24)).alloc (.cells #[.bool b', .slice B m d] 24)) ns zs ((m' + 1, b', .slice B m d) :: (m', b, .slice A n c) :: bs) := by
  subst hm; exact h.box2 b b' A B n c m d
theorem Dz.put (g : Nat) {b : Bool} {s : Value} (h : Dz w0 w ns zs ((g, b, s) :: bs)) (b' : Bool) (A : Option Addr) (n c : Nat) : Dz w0 (put2 w g b' (.slice A n c)) ns zs ((g, b', .slice A n c) :: bs) := by
  have hn := h.nodup
  rw [List.map_cons, List.nodup_cons] at hn
  refine ⟨h.lz.put (h.ge _ (List.mem_cons_self ..)) (fun p hp e => hn.1 (List.mem_map.2 ⟨p, hp, e⟩)) b' A n c, ?_, fun p hp => ?_⟩
  · rw [List.map_cons, List.nodup_cons]; exact hn
  · rcases List.mem_cons.1 hp with rfl | hp
    · exact h.ge (g, b, s) (List.mem_cons_self ..)
    · exact h.ge p (List.mem_cons_of_mem _ hp)
theorem Dz.swap {p q : Nat × Bool × Value} (h : Dz w0 w ns zs (p :: q :: bs)) : Dz w0 w ns zs (q :: p :: bs) := by
  refine ⟨h.lz.swap, ?_, fun r hr => h.ge r (by simp only [List.mem_cons] at hr ⊢; rcases hr with h | h | h <;> simp [h])⟩
  have := h.nodup
  simp only [List.map_cons, List.nodup_cons, List.mem_cons, not_or] at this ⊢
  exact ⟨⟨fun e => this.1.1 e.symm, this.2.1⟩, this.1.2, this.2.2⟩
end

section
variable {w0 w : World} {ns : List (Value × Nat)} {zs : List (Value × Int)} {bs : List (Nat × Bool × Value)} {g k : Nat} {b b' : Bool} {s s' : Value}
theorem Dz.n0 (h : Dz w0 w ns zs ((g, b, s) :: bs)) : g ≠ w.heap.size ∧ w.heap.size ≠ g ∧ g ≠ w.heap.size + 1 ∧ w.heap.size + 1 ≠ g ∧ g < w.heap.size := by
  have := (h.lz.bs (g, b, s) (List.mem_cons_self ..)).lt
  simp only at this
  omega
theorem Dz.n1 (h : Dz w0 w ns zs ((g, b, s) :: (k, b', s') :: bs)) : k ≠ w.heap.size ∧ w.heap.size ≠ k ∧ k ≠ w.heap.size + 1 ∧ w.heap.size + 1 ≠ k ∧ k < w.heap.size := by
  have := (h.lz.bs (k, b', s') (by simp)).lt
  simp only at this
  omega
theorem Dz.n01 (h : Dz w0 w ns zs ((g, b, s) :: (k, b', s') :: bs)) : g ≠ k ∧ k ≠ g := by
  have := h.nodup
  simp only [List.map_cons, List.nodup_cons, List.mem_cons, not_or] at this
  exact ⟨this.1.1, fun e => this.1.1 e.symm⟩
end

/-- Variables alone. -/
def Bs (w : World) (bs : List (Nat × Bool × Value)) : Prop := ∀ p ∈ bs, Box w p.1 p.2.1 p.2.2
theorem Dz.bs {w0 w : World} {ns : List (Value × Nat)} {zs : List (Value × Int)} {bs : List (Nat × Bool × Value)} (h : Dz w0 w ns zs bs) : Bs w bs := h.lz.bs
section
variable {w : World} {bs : List (Nat × Bool × Value)}
theorem Bs.step {w' : World} (h : Bs w bs) (hb : Below w.heap.size w w') : Bs w' bs := fun p hp => (h p hp).mono hb
theorem Bs.alloc (h : Bs w bs) (o : Obj) : Bs (w.alloc o) bs := h.step ((Below.refl w.heap.size w).alloc (Nat.le_refl _) o)
theorem Bs.b0 {g : Nat} {b : Bool} {s : Value} (h : Bs w ((g, b, s) :: bs)) : Box w g b s := h (g, b, s) (List.mem_cons_self ..)
theorem Bs.tl {p : Nat × Bool × Value} (h : Bs w (p :: bs)) : Bs w bs := fun q hq => h q (List.mem_cons_of_mem _ hq)
/-- A store into a block that is none of theirs. -/
theorem Bs.set (h : Bs w bs) (k i : Nat) (u : Value) (m : Nat) (hm : ∀ p ∈ bs, p.1 < m) (hk : m ≤ k) : Bs (w.setCell ⟨k, i, none⟩ u) bs := fun p hp => by
  have h1 := hm p hp
  refine ⟨?_, (h p hp).2⟩
  rw [heap_setCell_other w ⟨k, i, none⟩ p.1 u (by show p.1 ≠ k; omega)]
  exact (h p hp).1
end
theorem c_drew {w : World} {g j : Nat} {v : Value} (h : w.cell? ⟨g, j, none⟩ = some v) : w.drew.cell? ⟨g, j, none⟩ = some v := h
theorem Dz.drew {w0 w : World} {ns : List (Value × Nat)} {zs : List (Value × Int)} {bs : List (Nat × Bool × Value)} (h : Dz w0 w ns zs bs) : Dz w0 w.drew ns zs bs := h.step ((Below.refl _ _).drew)
theorem Bs.drew {w : World} {bs : List (Nat × Bool × Value)} (h : Bs w bs) : Bs w.drew bs := h.step ((Below.refl _ _).drew)
theorem c_alloc {w : World} {g j : Nat} {v : Value} (o : Obj) (h : w.cell? ⟨g, j, none⟩ = some v) : (w.alloc o).cell? ⟨g, j, none⟩ = some v := by
  have hlt : g < w.heap.size := World.block_lt_of_cell? w ⟨g, j, none⟩ h
  rw [((Below.refl w.heap.size w).alloc (Nat.le_refl _) o).cell (p := ⟨g, j, none⟩) hlt]
  exact h
theorem c_set {w : World} {g j k i m : Nat} {v u : Value} (h : w.cell? ⟨g, j, none⟩ = some v) (hg : g < m) (hk : m ≤ k) : (w.setCell ⟨k, i, none⟩ u).cell? ⟨g, j, none⟩ = some v := by
  have hne : g ≠ k := by omega
  rw [World.cell?_of_block (w := w) (a := ⟨g, j, none⟩) (heap_setCell_other w ⟨k, i, none⟩ g u hne)]
  exact h

/-- Two new variables, each with its integer. -/
def Made2 (w0 : World) (z1 z2 : Int) (s1 s2 : Value) (w' : World) : Prop := ∃ g1 g2 A1 c1 A2 c2, s1 = .pointer (some ⟨g1, 0, none⟩) ∧ s2 = .pointer (some ⟨g2, 0, none⟩) ∧ Below w0.heap.size w0 w' ∧ Box w' g1 (ng z1) (.slice A1 (zl z1) c1) ∧ Box w' g2 (ng z2) (.slice A2 (zl z2) c2) ∧ IsZ w' (.agg #[.bool (ng z1), .slice A1 (zl z1) c1]) z1 ∧ IsZ w' (.agg #[.bool (ng z2), .slice A2 (zl z2) c2]) z2
section
variable {w0 w : World} {ns : List (Value × Nat)} {zs : List (Value × Int)} {z1 z2 : Int} {A1 A2 : Option Addr} {c1 c2 : Nat}
theorem made_of {w' : World} {g1 g2 : Nat} (D : Dz w0 w' ns zs [(g1, ng z1, .slice A1 (zl z1) c1), (g2, ng z2, .slice A2 (zl z2) c2)]) (h1 : (.agg #[.bool (ng z1), .slice A1 (zl z1) c1], z1) ∈ zs) (h2 : (.agg #[.bool (ng z2), .slice A2 (zl z2) c2], z2) ∈ zs) :
    Made2 w0 z1 z2 (.pointer (some ⟨g1, 0, none⟩)) (.pointer (some ⟨g2, 0, none⟩)) w' :=
  ⟨g1, g2, A1, c1, A2, c2, rfl, rfl, D.lz.below, D.lz.b0, D.lz.tl.b0, D.getZ h1, D.getZ h2⟩
theorem put_size (w : World) (g : Nat) (b : Bool) (s : Value) : (put2 w g b s).heap.size = w.heap.size := by
  unfold put2
  simp
theorem made_a (D : Dz w0 w ns zs []) (h1 : (.agg #[.bool (ng z1), .slice A1 (zl z1) c1], z1) ∈ zs) (h2 : (.agg #[.bool (ng z2), .slice A2 (zl z2) c2], z2) ∈ zs) :
    Made2 w0 z1 z2 (.pointer (some ⟨w.heap.size, 0, none⟩)) (.pointer (some ⟨w.heap.size + 1, 0, none⟩)) ((w.alloc (.cells #[.bool (ng z1), .slice A1 (zl z1) c1] 24)).alloc (.cells #[.bool (ng z2), .slice A2 (zl z2) c2] 24)) :=
  made_of (D.box2 _ _ _ _ _ _ _ _).swap h1 h2
theorem made_b (D : Dz w0 w ns zs []) (h1 : (.agg #[.bool (ng z1), .slice A1 (zl z1) c1], z1) ∈ zs) (h2 : (.agg #[.bool (ng z2), .slice A2 (zl z2) c2], z2) ∈ zs) :
    Made2 w0 z1 z2 (.pointer (some ⟨w.heap.size + 1, 0, none⟩)) (.pointer (some ⟨w.heap.size, 0, none⟩)) ((w.alloc (.cells #[.bool (ng z2), .slice A2 (zl z2) c2] 24)).alloc (.cells #[.bool (ng z1), .slice A1 (zl z1) c1] 24)) :=
  made_of (D.box2 _ _ _ _ _ _ _ _) h1 h2
theorem made_c {g : Nat} {b : Bool} {s : Value} (D : Dz w0 w ns zs [(g, b, s)]) (h1 : (.agg #[.bool (ng z1), .slice A1 (zl z1) c1], z1) ∈ zs) (h2 : (.agg #[.bool (ng z2), .slice A2 (zl z2) c2], z2) ∈ zs) :
    Made2 w0 z1 z2 (.pointer (some ⟨g, 0, none⟩)) (.pointer (some ⟨w.heap.size, 0, none⟩)) (((w.setCell ⟨g, 0, none⟩ (.bool (ng z1))).setCell ⟨g, 1, none⟩ (.slice A1 (zl z1) c1)).alloc (.cells #[.bool (ng z2), .slice A2 (zl z2) c2] 24)) :=
  made_of ((D.put g (ng z1) A1 (zl z1) c1).boxM (put_size _ _ _ _) _ _ _ _).swap h1 h2
theorem made_d {g : Nat} {b : Bool} {s : Value} (D : Dz w0 w ns zs [(g, b, s)]) (h1 : (.agg #[.bool (ng z1), .slice A1 (zl z1) c1], z1) ∈ zs) (h2 : (.agg #[.bool (ng z2), .slice A2 (zl z2) c2], z2) ∈ zs) :
    Made2 w0 z1 z2 (.pointer (some ⟨w.heap.size, 0, none⟩)) (.pointer (some ⟨g, 0, none⟩)) (((w.setCell ⟨g, 0, none⟩ (.bool (ng z2))).setCell ⟨g, 1, none⟩ (.slice A2 (zl z2) c2)).alloc (.cells #[.bool (ng z1), .slice A1 (zl z1) c1] 24)) :=
  made_of ((D.put g (ng z2) A2 (zl z2) c2).boxM (put_size _ _ _ _) _ _ _ _) h1 h2
theorem made_e {g k : Nat} {b b' : Bool} {s s' : Value} (D : Dz w0 w ns zs [(k, b', s'), (g, b, s)]) (h1 : (.agg #[.bool (ng z1), .slice A1 (zl z1) c1], z1) ∈ zs) (h2 : (.agg #[.bool (ng z2), .slice A2 (zl z2) c2], z2) ∈ zs) :
    Made2 w0 z1 z2 (.pointer (some ⟨g, 0, none⟩)) (.pointer (some ⟨k, 0, none⟩)) ((((w.setCell ⟨g, 0, none⟩ (.bool (ng z1))).setCell ⟨g, 1, none⟩ (.slice A1 (zl z1) c1)).setCell ⟨k, 0, none⟩ (.bool (ng z2))).setCell ⟨k, 1, none⟩ (.slice A2 (zl z2) c2)) :=
  made_of ((D.swap.put g (ng z1) A1 (zl z1) c1).swap.put k (ng z2) A2 (zl z2) c2).swap h1 h2
theorem made_f {g k : Nat} {b b' : Bool} {s s' : Value} (D : Dz w0 w ns zs [(g, b, s), (k, b', s')]) (h1 : (.agg #[.bool (ng z1), .slice A1 (zl z1) c1], z1) ∈ zs) (h2 : (.agg #[.bool (ng z2), .slice A2 (zl z2) c2], z2) ∈ zs) :
    Made2 w0 z1 z2 (.pointer (some ⟨g, 0, none⟩)) (.pointer (some ⟨k, 0, none⟩)) ((((w.setCell ⟨g, 0, none⟩ (.bool (ng z1))).setCell ⟨g, 1, none⟩ (.slice A1 (zl z1) c1)).setCell ⟨k, 0, none⟩ (.bool (ng z2))).setCell ⟨k, 1, none⟩ (.slice A2 (zl z2) c2)) :=
  made_of ((D.put g (ng z1) A1 (zl z1) c1).swap.put k (ng z2) A2 (zl z2) c2).swap h1 h2
end
theorem zl_shl (x : Int) (k : Nat) : zl (x * 2 ^ k) ≤ zl x + k + 1 := by
  have h : (x * 2 ^ k).natAbs = x.natAbs * 2 ^ k := by rw [Int.natAbs_mul, Int.natAbs_pow]; rfl
  unfold zl
  rw [h]
  exact len_shl _ _
theorem zl_shr (x : Int) (k : Nat) : zl (x / 2 ^ k) ≤ zl x + 1 := by
  rw [shr_floor]
  have h1 := len_add (x.natAbs / 2 ^ k) 1
  have h2 : len 1 ≤ 1 := len_le1 (by omega)
  have h3 : len (x.natAbs / 2 ^ k) ≤ len x.natAbs := len_mono (Nat.div_le_self _ _)
  have h4 : zl x = len x.natAbs := rfl
  split
  · rename_i h
    rw [zl_sg]
    have h5 : 0 < len x.natAbs := len_pos (by
      simp only [Bool.and_eq_true, decide_eq_true_eq] at h
      rcases Nat.eq_zero_or_pos x.natAbs with h0 | h0
      · rw [h0] at h; simp at h
      · exact h0)
    omega
  · rw [zl_sg]; omega

end Go.Proofs.YtajegednakenbaaDoor
