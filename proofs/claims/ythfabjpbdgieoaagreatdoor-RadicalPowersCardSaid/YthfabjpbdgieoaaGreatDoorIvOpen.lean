/- An interval among a law's arguments, opened. -/
import Derived.Test.YthfabjpbdgieoaaGreatDoorDyOpen
import Derived.Test.YthfabjpbdgieoaaGreatDoorBaseV
namespace Go.Proofs.YthfabjpbdgieoaaGreatDoor
open Go.RowKit
set_option linter.unusedVariables false
set_option linter.unusedSimpArgs false
set_option maxRecDepth 100000
open Go.ChangeShapes Go.WideShapes Go.ChangeAt

theorem array6 {a : Array Value} (h : a.size = 6) : ∃ x0 x1 x2 x3 x4 x5, a = #[x0, x1, x2, x3, x4, x5] := by
  obtain ⟨l⟩ := a
  rcases l with _ | ⟨x0, _ | ⟨x1, _ | ⟨x2, _ | ⟨x3, _ | ⟨x4, _ | ⟨x5, _ | ⟨x6, l⟩⟩⟩⟩⟩⟩⟩ <;> first | exact ⟨_, _, _, _, _, _, rfl⟩ | (exfalso; simp at h)
theorem open_dy3 {H : Type} {enc : TypeId × Value → H} {W : World} {base n : Nat} {c0 c1 c2 : Value} {y : DataW H × List MemPlace} (h : DataW.trod enc Tryz.prog W base (fun _ => true) true n 26 [c0, c1, c2] = some y) :
    ∃ b A p c l e, c0 = .bool b ∧ c1 = .slice A p c ∧ c2 = .int .i64 e ∧ Sl W A p c l ∧ -9223372036854775808 ≤ e ∧ e ≤ 9223372036854775807 := by
  obtain ⟨y0, y1, n, _, _, h0, h1⟩ := trod_struct2 Tryz.underlying26 h
  have e0 : Tryz.prog.cellsOf 24 = 2 := by kernel_rfl
  have e1 : Tryz.prog.cellsOf 22 = 1 := by kernel_rfl
  have e3 : Tryz.prog.cellsOf 3 = 1 := by kernel_rfl
  have h0' : DataW.trod enc Tryz.prog W base (fun _ => true) true n 24 [c0, c1] = some y0 := by
    simpa [Value.cells, e0] using h0
  have h1' : DataW.trod enc Tryz.prog W base (fun _ => true) true n 3 [c2] = some y1 := by
    simpa [Value.cells, e0, e3] using h1
  obtain ⟨z0, z1, n2, _, _, g0, g1⟩ := trod_struct2 Tryz.underlying24 h0'
  have e2 : Tryz.prog.cellsOf 4 = 1 := by kernel_rfl
  have g0' : DataW.trod enc Tryz.prog W base (fun _ => true) true n2 4 [c0] = some z0 := by
    simpa [e2] using g0
  have g1' : DataW.trod enc Tryz.prog W base (fun _ => true) true n2 22 [c1] = some z1 := by
    simpa [e1, e2] using g1
  obtain ⟨b, hb, _⟩ := DataW.trod_bool Tryz.underlying4 g0'
  obtain rfl : c0 = .bool b := by simpa using hb
  obtain ⟨A, n3, c3, l, rfl, s1⟩ := open_slice8 g1'
  obtain ⟨e, he, _, hw⟩ := DataW.trod_int Tryz.underlying3 h1'
  obtain rfl : c2 = .int .i64 e := by simpa using he
  obtain ⟨k1, k2⟩ := bounds_i64 hw
  exact ⟨b, A, n3, c3, l, e, rfl, rfl, rfl, s1, k1, k2⟩
theorem open_iv {H : Type} {enc : TypeId × Value → H} {W : World} {r : Reach} {b0 base : Nat} {v : Value} {d : DataW H} {p : List MemPlace} (hv : Value.okWide Tryz.prog W r b0 28 v) (h : DataW.Trod enc Tryz.prog W base (fun _ => true) true 28 v d p) :
    ∃ b A n c l e b' A' n' c' l' e', v = .agg #[.bool b, .slice A n c, .int .i64 e, .bool b', .slice A' n' c', .int .i64 e'] ∧ (Sl W A n c l ∧ -9223372036854775808 ≤ e ∧ e ≤ 9223372036854775807) ∧ (Sl W A' n' c' l' ∧ -9223372036854775808 ≤ e' ∧ e' ≤ 9223372036854775807) := by
  obtain ⟨cs, rfl, hsz⟩ := okWide_struct Tryz.underlying28 hv
  obtain ⟨c0, c1, c2, c3, c4, c5, rfl⟩ := array6 (hsz.trans (show Tryz.prog.cellsOf 28 = 6 by kernel_rfl))
  obtain ⟨fuel, hf⟩ := h
  obtain ⟨y0, y1, n, _, _, h0, h1⟩ := trod_struct2 Tryz.underlying28 hf
  have e0 : Tryz.prog.cellsOf 26 = 3 := by kernel_rfl
  have h0' : DataW.trod enc Tryz.prog W base (fun _ => true) true n 26 [c0, c1, c2] = some y0 := by
    simpa [Value.cells, e0] using h0
  have h1' : DataW.trod enc Tryz.prog W base (fun _ => true) true n 26 [c3, c4, c5] = some y1 := by
    simpa [Value.cells, e0] using h1
  obtain ⟨b, A, n1, k, l, e, rfl, rfl, rfl, q1⟩ := open_dy3 h0'
  obtain ⟨b', A', n1', k', l', e', rfl, rfl, rfl, q2⟩ := open_dy3 h1'
  exact ⟨b, A, n1, k, l, e, b', A', n1', k', l', e', rfl, q1, q2⟩

end Go.Proofs.YthfabjpbdgieoaaGreatDoor
