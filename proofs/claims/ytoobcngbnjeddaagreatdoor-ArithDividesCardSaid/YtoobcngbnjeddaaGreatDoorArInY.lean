/- What a quotient is as one result; the results for fractions of the arguments lie in the images. -/
import Derived.Test.YtoobcngbnjeddaaGreatDoorArSmY
import Derived.Test.YtoobcngbnjeddaaGreatDoorBaseW
import Derived.Test.YtoobcngbnjeddaaGreatDoorBaseX
import Derived.Test.YtoobcngbnjeddaaGreatDoorBaseF
import Derived.Test.YtoobcngbnjeddaaGreatDoorBaseE
import Derived.Test.YtoobcngbnjeddaaGreatDoorArPH
namespace Go.Proofs.YtoobcngbnjeddaaGreatDoor
open Go.RowKit
set_option linter.unusedVariables false
set_option linter.unusedSimpArgs false
set_option maxRecDepth 100000
attribute [local go_sem ↓] Go.wp_at_zero Go.wp_at_succ

theorem RetDv.fix (m e n f m2 e2 n2 f2 k : Int) : ∃ M E N G er : Int, (∀ W, RetDv W m e n f m2 e2 n2 f2 k = RetIE W M E N G er) ∧ (zl M ≤ 400 ∧ (-10000 ≤ E ∧ E ≤ 10000)) ∧ (zl N ≤ 400 ∧ (-10000 ≤ G ∧ G ≤ 10000)) ∧ (er = 0 → cmpI m2 0 = cmpI n2 0 ∧ ¬ cmpI m2 0 = 0 ∧ dq M E ≤ min4 (dq m e / dq m2 e2) (dq m e / dq n2 f2) (dq n f / dq m2 e2) (dq n f / dq n2 f2) ∧ max4 (dq m e / dq m2 e2) (dq m e / dq n2 f2) (dq n f / dq m2 e2) (dq n f / dq n2 f2) ≤ dq N G) := by
  have z0 := zl0
  have b0 : zl 0 ≤ 400 ∧ (-10000 ≤ (0 : Int) ∧ (0 : Int) ≤ 10000) := by omega
  unfold RetDv
  by_cases h1 : workB k = true
  · by_cases h2 : cmpI m2 0 = cmpI n2 0
    · by_cases h3 : cmpI m2 0 = 0
      · exact ⟨0, 0, 0, 0, 2, fun W => by rw [if_pos h1, if_pos h2, if_pos h3], b0, b0, fun h => absurd h (by decide)⟩
      · obtain ⟨M, E, N, G, er, fx, b1, b2, hok, _, _⟩ := RetEn.fix (min4 (dq m e / dq m2 e2) (dq m e / dq n2 f2) (dq n f / dq m2 e2) (dq n f / dq n2 f2)) (max4 (dq m e / dq m2 e2) (dq m e / dq n2 f2) (dq n f / dq m2 e2) (dq n f / dq n2 f2)) k
        refine ⟨M, E, N, G, er, fun W => by rw [if_pos h1, if_pos h2, if_neg h3]; exact fx W, b1, b2, fun h => ?_⟩
        obtain ⟨_, x1, x2, rfl, rfl, rfl, rfl⟩ := hok h
        exact ⟨h2, h3, en_lo x1, up_hi x2⟩
    · exact ⟨0, 0, 0, 0, 5, fun W => by rw [if_pos h1, if_neg h2], b0, b0, fun h => absurd h (by decide)⟩
  · exact ⟨0, 0, 0, 0, 1, fun W => by rw [if_neg h1], b0, b0, fun h => absurd h (by decide)⟩
theorem Lq.rebase {w0 w : World} {ns : List (Value × Nat)} {zs : List (Value × Int)} {qs : List (Value × Int × Nat)} {bs : List (Nat × TypeId × Array Value)} (h : Lq w0 w ns zs qs bs) : Lq w w ns zs qs bs := ⟨Below.refl _ _, h.ns, h.zs, h.qs, h.bs⟩
end Go.Proofs.YtoobcngbnjeddaaGreatDoor
