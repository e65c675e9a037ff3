/- A dyadic among a law's arguments, opened. -/
import Derived.Test.YthfabjpbdgieoaaGreatDoorBaseI
import Derived.Test.YthfabjpbdgieoaaGreatDoorBaseD
import Derived.Lib.SmallJoins
import Derived.ProofKit
import Derived.OpenShut
import Derived.ChangeOld
namespace Go.Proofs.YthfabjpbdgieoaaGreatDoor
open Go.RowKit
set_option linter.unusedVariables false
set_option linter.unusedSimpArgs false
set_option maxRecDepth 100000
open Go.ChangeShapes Go.WideShapes Go.ChangeAt

theorem open_slice8 {H : Type} {enc : TypeId × Value → H} {W : World} {base : Nat} {fuel : Nat} {v : Value} {x : DataW H × List MemPlace} (h : DataW.trod enc Tryz.prog W base (fun _ => true) true fuel 22 [v] = some x) : ∃ a n c l, v = .slice a n c ∧ Sl W a n c l := by
  rcases open_ints Tryz.underlying22 Tryz.underlying121 (by kernel_rfl) h with ⟨hcs, _⟩ | ⟨x, l, c, zs, hcs, _, hl, hm, hz, _, hcell, hwz⟩
  · exact ⟨none, 0, 0, [], by simpa using hcs, Sl.nil W⟩
  · exact ⟨_, _, _, _, by simpa using hcs, sl_of_ints hl hm (by simpa using hz) hcell hwz⟩
theorem open_dy {H : Type} {enc : TypeId × Value → H} {W : World} {r : Reach} {b0 base : Nat} {v : Value} {d : DataW H} {p : List MemPlace} (hv : Value.okWide Tryz.prog W r b0 26 v) (h : DataW.Trod enc Tryz.prog W base (fun _ => true) true 26 v d p) :
    ∃ b A n c l e, v = .agg #[.bool b, .slice A n c, .int .i64 e] ∧ Sl W A n c l ∧ -9223372036854775808 ≤ e ∧ e ≤ 9223372036854775807 := by
  obtain ⟨cs, rfl, hsz⟩ := okWide_struct Tryz.underlying26 hv
  obtain ⟨c0, c1, c2, rfl⟩ := Go.Joins.array3 (hsz.trans (show Tryz.prog.cellsOf 26 = 3 by kernel_rfl))
  obtain ⟨fuel, hf⟩ := h
  obtain ⟨y0, y1, n, _, _, h0, h1⟩ := trod_struct2 Tryz.underlying26 hf
  have e0 : Tryz.prog.cellsOf 24 = 2 := by kernel_rfl
  have e1 : Tryz.prog.cellsOf 22 = 1 := by kernel_rfl
  have e3 : Tryz.prog.cellsOf 3 = 1 := by kernel_rfl
  have h0' : DataW.trod enc Tryz.prog W base (fun _ => true) true n 24 [c0, c1] = some y0 := by
    simpa [Value.cells, e0] using h0
  have h1' : DataW.trod enc Tryz.prog W base (fun _ => true) true n 3 [c2] = some y1 := by
    simpa [Value.cells, e3] using h1
  obtain ⟨z0, z1, n2, _, _, g0, g1⟩ := trod_struct2 Tryz.underlying24 h0'
  have e2 : Tryz.prog.cellsOf 4 = 1 := by kernel_rfl
  have g0' : DataW.trod enc Tryz.prog W base (fun _ => true) true n2 4 [c0] = some z0 := by
    simpa [e2] using g0
  have g1' : DataW.trod enc Tryz.prog W base (fun _ => true) true n2 22 [c1] = some z1 := by
    simpa [e1] using g1
  obtain ⟨b, hb, _⟩ := DataW.trod_bool Tryz.underlying4 g0'
  obtain rfl : c0 = .bool b := by simpa using hb
  obtain ⟨A, n3, c3, l, rfl, s1⟩ := open_slice8 g1'
  obtain ⟨e, he, _, hw⟩ := DataW.trod_int Tryz.underlying3 h1'
  obtain rfl : c2 = .int .i64 e := by simpa using he
  obtain ⟨k1, k2⟩ := bounds_i64 hw
  exact ⟨b, A, n3, c3, l, e, rfl, s1, k1, k2⟩

end Go.Proofs.YthfabjpbdgieoaaGreatDoor
