/- Words for dyadics: a struct of an integer and an exponent; what Make returns. -/
import Derived.Test.YtpgiolbnmlbjbaaGreatDoorRatA
import Derived.Test.YtpgiolbnmlbjbaaGreatDoorBaseR
namespace Go.Proofs.YtpgiolbnmlbjbaaGreatDoor
open Go.RowKit
set_option linter.unusedVariables false
set_option linter.unusedSimpArgs false
set_option maxRecDepth 100000

/-- A value stands for the parts of m * 2^e. -/
def IsD (w : World) (v : Value) (m e : Int) : Prop := ∃ s, v = .agg #[.bool (ng m), s, .int .i64 e] ∧ IsN w s m.natAbs
theorem IsD.mono {w w' : World} {v : Value} {m e : Int} (h : IsD w v m e) (hb : Below w.heap.size w w') : IsD w' v m e := by
  obtain ⟨s, r, hs⟩ := h
  exact ⟨s, r, hs.mono hb⟩
theorem IsD.form {w : World} {v : Value} {m e : Int} (h : IsD w v m e) : ∃ A c, v = .agg #[.bool (ng m), .slice A (zl m) c, .int .i64 e] ∧ IsZ w (.agg #[.bool (ng m), .slice A (zl m) c]) m ∧ IsN w (.slice A (zl m) c) m.natAbs := by
  obtain ⟨s, r, hs⟩ := h
  obtain ⟨A, c, e1⟩ := hs.form
  subst e1
  exact ⟨A, c, r, ⟨_, rfl, hs⟩, hs⟩
theorem isD_n {w : World} {s : Value} {m e : Int} (h : IsN w s m.natAbs) : IsD w (.agg #[.bool (ng m), s, .int .i64 e]) m e := ⟨s, rfl, h⟩
theorem isD_z {w : World} {s : Value} {m e : Int} (h : IsZ w (.agg #[.bool (ng m), s]) m) : IsD w (.agg #[.bool (ng m), s, .int .i64 e]) m e := by
  obtain ⟨s', r, hs⟩ := h
  have : s = s' := by simpa using r
  subst this
  exact ⟨s, rfl, hs⟩
theorem isD_zero (w : World) : IsD w (.agg #[.bool false, .slice none 0 0, .int .i64 0]) 0 0 := ⟨_, rfl, IsN.zero w⟩
theorem plainD (b : Bool) (A : Option Addr) (n c : Nat) (e : Int) : Plain #[.bool b, .slice A n c, .int .i64 e] := fun j x => by
  match j with
  | 0 => simp
  | 1 => simp
  | 2 => simp
  | j + 3 => simp
section
variable {w0 w : World} {ns : List (Value × Nat)} {zs : List (Value × Int)} {qs : List (Value × Int × Nat)} {bs : List (Nat × TypeId × Array Value)}
theorem Lq.varD (h : Lq w0 w ns zs qs bs) (g : Nat) (hg : g = w.heap.size) (b : Bool) (A : Option Addr) (n c : Nat) (e : Int) : Lq w0 (w.alloc (.cells #[.bool b, .slice A n c, .int .i64 e] 26)) ns zs qs ((g, 26, #[.bool b, .slice A n c, .int .i64 e]) :: bs) := h.var g hg _ _ (plainD _ _ _ _ _)
theorem Lq.putD {g : Nat} {b : Bool} {s t : Value} (h : Lq w0 w ns zs qs ((g, 26, #[.bool b, s, t]) :: bs)) (hg : w0.heap.size ≤ g) (hd : ∀ p ∈ bs, p.1 ≠ g) (b' : Bool) (A : Option Addr) (n c : Nat) (e : Int) :
    Lq w0 (put3 w g b' (.slice A n c) (.int .i64 e)) ns zs qs ((g, 26, #[.bool b', .slice A n c, .int .i64 e]) :: bs) :=
  ((h.set hg hd 0 (.bool b') (by intro x e; cases e)).set hg hd 1 (.slice A n c) (by intro x e; cases e)).set hg hd 2 (.int .i64 e) (by intro x e; cases e)
end
/-- A dyadic; a dyadic and an error; nothing that was there has turned. -/
def RetD8 (w : World) (m e : Int) (en : Ending) (w' : World) : Prop := ∃ v, en = .returned v ∧ IsD w' v m e ∧ Below w.heap.size w w'
def RetDE (w : World) (m e er : Int) (en : Ending) (w' : World) : Prop := ∃ v, en = .returned (.tuple #[v, .int .i64 er]) ∧ IsD w' v m e ∧ Below w.heap.size w w'
def RetDB (w : World) (m e : Int) (b : Bool) (en : Ending) (w' : World) : Prop := ∃ v, en = .returned (.tuple #[v, .bool b]) ∧ IsD w' v m e ∧ Below w.heap.size w w'

/-- The odd part of an integer, and the exponent with it. -/
def oddM (m : Int) : Int := sg (ng m) (m.natAbs / 2 ^ tz m.natAbs)
def oddE (m e : Int) : Int := e + (tz m.natAbs : Int)
/-- Whether a mantissa that is not zero and an exponent may stand in a dyadic. -/
def fits8 (m e : Int) : Bool := decide (blen m.natAbs ≤ 65536) && (decide (-65536 ≤ e) && (decide (e ≤ 65536) && bitB m.natAbs 0))
/-- What Make returns. -/
def mkR (m e : Int) : Int := if e < -131072 ∨ 131072 < e then 1 else if m = 0 then 0 else if fits8 (oddM m) (oddE m e) then 0 else 3
def mkM (m e : Int) : Int := if mkR m e = 0 then oddM m else 0
def mkE (m e : Int) : Int := if m = 0 then 0 else if mkR m e = 0 then oddE m e else 0
theorem oddM_zero : oddM 0 = 0 := by unfold oddM; simp [sg]
theorem oddM_abs (m : Int) : (oddM m).natAbs = m.natAbs / 2 ^ tz m.natAbs := sg_abs _ _
theorem oddM_pos {m : Int} (h : m ≠ 0) : 0 < (oddM m).natAbs := by
  rw [oddM_abs]
  obtain ⟨k, hk⟩ := tz_form (x := m.natAbs) (by omega)
  have h2 : 0 < 2 ^ tz m.natAbs := Nat.pow_pos (by omega)
  refine Nat.div_pos ?_ h2
  have : 2 ^ tz m.natAbs * 1 ≤ 2 ^ tz m.natAbs * (2 * k + 1) := Nat.mul_le_mul_left _ (by omega)
  omega
theorem zl_odd (m : Int) : zl (oddM m) ≤ zl m := by
  unfold zl
  rw [oddM_abs]
  exact len_mono (Nat.div_le_self _ _)

end Go.Proofs.YtpgiolbnmlbjbaaGreatDoor
