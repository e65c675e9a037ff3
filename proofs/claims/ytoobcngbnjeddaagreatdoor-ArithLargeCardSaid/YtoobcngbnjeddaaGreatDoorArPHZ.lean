/- The program's arith: Div. -/
import Derived.Test.YtoobcngbnjeddaaGreatDoorArPHeZ
import Derived.Test.YtoobcngbnjeddaaGreatDoorArPHpZ
import Derived.Test.YtoobcngbnjeddaaGreatDoorArPHnZ
namespace Go.Proofs.YtoobcngbnjeddaaGreatDoor
open Go.RowKit
set_option linter.unusedVariables false
set_option linter.unusedSimpArgs false
set_option maxRecDepth 100000
attribute [local go_sem ↓] Go.wp_at_zero Go.wp_at_succ

set_option maxHeartbeats 2000000 in
theorem adiv_any (m e n f m2 e2 n2 f2 k : Int) (vx vy : Value) (w : World) (hx : IsI w vx m e n f) (hy : IsI w vy m2 e2 n2 f2) (lm : zl m ≤ 25) (ln : zl n ≤ 25) (lm2 : zl m2 ≤ 25) (ln2 : zl n2 ≤ 25) (he : -3000 ≤ e ∧ e ≤ 3000) (hf : -3000 ≤ f ∧ f ≤ 3000) (he2 : -3000 ≤ e2 ∧ e2 ≤ 3000) (hf2 : -3000 ≤ f2 ∧ f2 ≤ 3000) (hd1 : dcm m e n f ≤ 0) (hd2 : dcm m2 e2 n2 f2 ≤ 0) (hk1 : -9223372036854775808 ≤ k) (hk2 : k ≤ 9223372036854775807) (hT : Tab w) :
    Calls Tryz.prog 23 #[vx, vy, .int .i64 k] w (RetDv w m e n f m2 e2 n2 f2 k) := by
  unfold RetDv
  cases hw : workB k
  · rw [if_neg (by decide)]
    exact adiv_e1 m e n f m2 e2 n2 f2 k vx vy w hx hy lm ln lm2 ln2 he hf he2 hf2 hd1 hd2 hk1 hk2 hT hw
  · rw [if_pos rfl]
    by_cases hxy : cmpI m2 0 = cmpI n2 0
    · rw [if_pos hxy]
      by_cases hx0 : cmpI m2 0 = 0
      · rw [if_pos hx0]
        exact adiv_e2 m e n f m2 e2 n2 f2 k vx vy w hx hy lm ln lm2 ln2 he hf he2 hf2 hd1 hd2 hk1 hk2 hT hw hxy hx0
      · rw [if_neg hx0]
        by_cases hx1 : cmpI m2 0 < 0
        · exact adiv_neg m e n f m2 e2 n2 f2 k vx vy w hx hy lm ln lm2 ln2 he hf he2 hf2 hd1 hd2 hk1 hk2 hT hw hxy hx0 hx1
        · exact adiv_pos m e n f m2 e2 n2 f2 k vx vy w hx hy lm ln lm2 ln2 he hf he2 hf2 hd1 hd2 hk1 hk2 hT hw hxy hx0 hx1
    · rw [if_neg hxy]
      exact adiv_e5 m e n f m2 e2 n2 f2 k vx vy w hx hy lm ln lm2 ln2 he hf he2 hf2 hd1 hd2 hk1 hk2 hT hw hxy

end Go.Proofs.YtoobcngbnjeddaaGreatDoor
