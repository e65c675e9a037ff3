/- Rows of 32-bit numbers that a call made, whatever they hold: they may be written. -/
import Derived.Test.YtpgiolbnmlbjbaaGreatDoorBaseR
namespace Go.Proofs.YtpgiolbnmlbjbaaGreatDoor
open Go.RowKit
set_option linter.unusedVariables false
set_option linter.unusedSimpArgs false
set_option maxRecDepth 100000

/-- A slice of numbers in a block from B on, or nil. -/
def UB (w : World) (B : Nat) (v : Value) : Prop := v = .slice none 0 0 ∨
  ∃ b n c cur, v = .slice (some ⟨b, 0, none⟩) n c ∧ B ≤ b ∧ w.heap[b]? = some (.cells cur 99 (0, 0)) ∧ n ≤ maxLen ∧ ∀ i, i < n → ∃ x : Nat, cur[i]? = some (.int .u32 (x : Int)) ∧ x < 4294967296
theorem UB.of_own {w : World} {B base : Nat} {v : Value} {l : List Nat} (h : Own w base v l) (hb : B ≤ base) : UB w B v := by
  obtain ⟨⟨h1, h2⟩, hs⟩ := h
  rcases h2 with ⟨e, _⟩ | ⟨g, cap, cur, e, h3, hg, hc, hm, hsz, ht⟩
  · exact .inl e
  · refine .inr ⟨g, _, cap, cur, e, Nat.le_trans hb h3, hg, Nat.le_trans hc hm, fun i hi => ?_⟩
    have hu := u32s_get hi
    rw [← ht, List.getElem?_take_of_lt (by omega)] at hu
    exact ⟨_, by rw [← Array.getElem?_toList]; exact hu, hs.get i⟩
theorem UB.lt {w : World} {B : Nat} {v : Value} (h : UB w B v) : v = .slice none 0 0 ∨ ∃ b n c, v = .slice (some ⟨b, 0, none⟩) n c ∧ B ≤ b ∧ b < w.heap.size := by
  rcases h with e | ⟨b, n, c, cur, e, h1, h2, _⟩
  · exact .inl e
  · refine .inr ⟨b, n, c, e, h1, ?_⟩
    rcases Nat.lt_or_ge b w.heap.size with h3 | h3
    · exact h3
    · rw [Array.getElem?_eq_none h3] at h2; cases h2
theorem UB.below {w w' : World} {B : Nat} {v : Value} (h : UB w B v) (hb : Below w.heap.size w w') : UB w' B v := by
  have hl := h.lt
  rcases h with e | ⟨b, n, c, cur, e, h1, h2, h3⟩
  · exact .inl e
  · rcases hl with e' | ⟨b', n', c', e', _, hlt⟩
    · rw [e] at e'; cases e'
    · have : b = b' := by
        rw [e] at e'
        injection e' with e1
        injection e1 with e1
        injection e1
      subst this
      exact .inr ⟨b, n, c, cur, e, h1, by rw [hb.block b hlt]; exact h2, h3⟩
theorem UB.store {w : World} {B : Nat} {v : Value} (h : UB w B v) (b' j : Nat) {x : Nat} (hx : x < 4294967296) : UB (w.setCell ⟨b', j, none⟩ (.int .u32 (x : Int))) B v := by
  rcases h with e | ⟨b, n, c, cur, e, h1, h2, h3, h4⟩
  · exact .inl e
  · by_cases hbb : b = b'
    · subst hbb
      refine .inr ⟨b, n, c, _, e, h1, heap_setCell_same w b j cur 99 _ h2, h3, fun i hi => ?_⟩
      obtain ⟨y, hy, hy2⟩ := h4 i hi
      by_cases hij : j = i
      · subst hij
        refine ⟨x, ?_, hx⟩
        have hlt : j < cur.size := by
          rcases Nat.lt_or_ge j cur.size with h5 | h5
          · exact h5
          · rw [Array.getElem?_eq_none h5] at hy; cases hy
        simp [hlt]
      · refine ⟨y, ?_, hy2⟩
        rw [Array.getElem?_setIfInBounds_ne hij]
        exact hy
    · exact .inr ⟨b, n, c, cur, e, h1, by rw [heap_setCell_other w ⟨b', j, none⟩ b _ hbb]; exact h2, h3, h4⟩

/-- What is known while results are made one after the other: nothing that was there has turned, and each may be written. -/
def Res (w0 w : World) (vs : List Value) : Prop := Below w0.heap.size w0 w ∧ ∀ v ∈ vs, UB w w0.heap.size v
theorem Res.mk (w0 : World) : Res w0 w0 [] := ⟨Below.refl _ _, fun v hv => by cases hv⟩
theorem Res.step {w0 w w' : World} {vs : List Value} (h : Res w0 w vs) (hb : Below w.heap.size w w') : Res w0 w' vs := ⟨h.1.trans (hb.mono h.1.size), fun v hv => (h.2 v hv).below hb⟩
theorem Res.add {w0 w w' : World} {vs : List Value} (h : Res w0 w vs) {v : Value} {l : List Nat} (o : Out w w' v l) : Res w0 w' (v :: vs) :=
  ⟨h.1.trans (o.below.mono h.1.size), fun u hu => by
    rcases List.mem_cons.1 hu with rfl | hu
    · exact UB.of_own o.own h.1.size
    · exact (h.2 u hu).below o.below⟩
theorem trimN_any (x : Nat) (v : Value) (w : World) (h : IsN w v x) (hx : len x ≤ 1000000) : Calls Tryz.prog 109 #[v] w (RetN w x) := by
  obtain ⟨A, n, c, rfl, h⟩ := h
  have hl : len x = n := h.len
  have := trim_any _ A n c w h (by omega)
  rwa [trim_dig] at this

/-- A block of slices, known whole. -/
def Lit (w : World) (g : Nat) (vs : List Value) : Prop := w.heap[g]? = some (.cells vs.toArray 22 (0, 0))
theorem Lit.cell {w : World} {g : Nat} {vs : List Value} (h : Lit w g vs) {j : Nat} {v : Value} (hv : vs[j]? = some v) : w.cell? ⟨g, j, none⟩ = some v := by
  rw [cell_of_row w g j _ _ _ h]
  simpa using hv
theorem Lit.store {w : World} {g : Nat} {vs : List Value} (h : Lit w g vs) {b j : Nat} {cur : Array Value} (hb : w.heap[b]? = some (.cells cur 99 (0, 0))) (u : Value) : Lit (w.setCell ⟨b, j, none⟩ u) g vs := by
  have hne : g ≠ b := by
    rintro rfl
    unfold Lit at h
    rw [h] at hb
    injection hb with hb
    injection hb with _ hb
    exact absurd hb (by decide)
  unfold Lit
  rw [heap_setCell_other w ⟨b, j, none⟩ g u hne]
  exact h

def UBs (w : World) (B : Nat) (vs : List Value) : Prop := ∀ v ∈ vs, UB w B v
theorem UBs.get {w : World} {B : Nat} {vs : List Value} (h : UBs w B vs) {j : Nat} {v : Value} (hv : vs[j]? = some v) : UB w B v := h v (List.mem_of_getElem? hv)
theorem UBs.store {w : World} {B : Nat} {vs : List Value} (h : UBs w B vs) (b' j : Nat) {x : Nat} (hx : x < 4294967296) : UBs (w.setCell ⟨b', j, none⟩ (.int .u32 (x : Int))) B vs := fun v hv => (h v hv).store b' j hx
theorem UB.form {w : World} {B : Nat} {v : Value} (h : UB w B v) : ∃ A n c, v = .slice A n c ∧ n ≤ maxLen := by
  rcases h with e | ⟨b, n, c, _, e, _, _, hn, _⟩
  · exact ⟨none, 0, 0, e, Nat.zero_le _⟩
  · exact ⟨_, n, c, e, hn⟩
theorem UB.at_ {w : World} {B : Nat} {A : Option Addr} {n c : Nat} (h : UB w B (.slice A n c)) {k : Nat} (hk : k < n) :
    ∃ b cur x, A = some ⟨b, 0, none⟩ ∧ B ≤ b ∧ w.heap[b]? = some (.cells cur 99 (0, 0)) ∧ w.cell? ⟨b, k, none⟩ = some (.int .u32 (x : Nat)) ∧ w.frozen? ⟨b, k, none⟩ = false ∧ x < 4294967296 := by
  rcases h with e | ⟨b, n', c', cur, e, hb, hh, _, hx⟩
  · injection e with e1 e2 e3
    omega
  · injection e with e1 e2 e3
    subst e1; subst e2
    obtain ⟨x, hx1, hx2⟩ := hx k hk
    exact ⟨b, cur, x, rfl, hb, hh, by rw [cell_of_row w b k _ _ _ hh]; exact hx1, by simp [World.frozen?, hh], hx2⟩

end Go.Proofs.YtpgiolbnmlbjbaaGreatDoor
