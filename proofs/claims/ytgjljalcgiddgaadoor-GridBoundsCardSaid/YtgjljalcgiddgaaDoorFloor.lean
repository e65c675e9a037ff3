/- Floor of fractions: the program's and the reference's. -/
import Derived.Test.YtgjljalcgiddgaaDoorRatP
import Derived.Test.YtgjljalcgiddgaaDoorBaseD
import Derived.Test.YtgjljalcgiddgaaDoorRefDivMod
import Derived.Test.YtgjljalcgiddgaaDoorBaseI
import Derived.Deep.RegionHeld3
import Derived.Deep.DrawnRows
import Derived.Deep.Cut
import Derived.Deep.CutRange
namespace Go.Proofs.YtgjljalcgiddgaaDoor
open Go.RowKit
set_option linter.unusedVariables false
set_option linter.unusedSimpArgs false
set_option maxRecDepth 100000
attribute [local go_sem ↓] Go.wp_at_zero Go.wp_at_succ

set_option maxHeartbeats 1000000 in
theorem pfloor_any (a : Int) (d : Nat) (vx : Value) (w : World) (hx : IsP w vx a d) (la : zl a ≤ 1000000) (ld : len d ≤ 1000000) (hd0 : 0 < d) :
    Calls Tryd.prog 93 #[vx] w (RetZ w (a / (d : Int))) := by
  obtain ⟨A, c, B, g, rfl, hz, _, hd⟩ := hx.form
  have hzd := isZ_nat hd
  have ld' : zl (d : Int) ≤ 1000000 := ld
  have h1 := fun v u W k1 k2 => zdivmod_any a (d : Int) v u W k1 k2 (by omega) (by omega) (by omega)
  rw [Int.fdiv_eq_ediv_of_nonneg _ (by omega)] at h1
  have H1 := Lib.hid h1
  clear h1
  have L0 := ((Lq.mk0 w).z hz).z hzd
  generalize a / (d : Int) = q at *
  generalize a.fmod (d : Int) = r at *
  clear hx hz hd hzd la ld ld' hd0
  go_enter Tryd.func93, Tryd.ntmps93
  go_wp2_with fail
  have L := ((L0.varQ (w.heap.size) (by simp) (ng a) A B (zl a) c (len d) g).varZ (w.heap.size + 1) (by simp) false none 0 0)
  have c00 := L.b0.c20
  have f00 := L.b0.fr 0
  have c01 := L.b0.c21
  have f01 := L.b0.fr 1
  have c10 := L.tl.b0.c30
  have c11 := L.tl.b0.c31
  have c12 := L.tl.b0.c32
  refine (H1.out _ _ _ (L.getZ (by simp)) (L.getZ (by simp))).mono ?_
  rintro e w1 ⟨v1, v2, rfl, i1, i2, be⟩
  clear c00 f00 c01 f01 c10 c11 c12
  replace L := ((L.step be).z i2).z i1
  obtain ⟨A1, c1, rfl, _⟩ := i1.form
  obtain ⟨A2, c2, rfl, _⟩ := i2.form
  clear be i1 i2
  have hl := L.b0.lt
  replace L := (L.varZ w1.heap.size rfl (ng q) A1 (zl q) c1).varZ (w1.heap.size + 1) (by simp) (ng r) A2 (zl r) c2
  have c00 := L.b0.c20
  have f00 := L.b0.fr 0
  have c01 := L.b0.c21
  have f01 := L.b0.fr 1
  have c10 := L.tl.b0.c20
  have f10 := L.tl.b0.fr 0
  have c11 := L.tl.b0.c21
  have f11 := L.tl.b0.fr 1
  have c20 := L.tl.tl.b0.c20
  have f20 := L.tl.tl.b0.fr 0
  have c21 := L.tl.tl.b0.c21
  have f21 := L.tl.tl.b0.fr 1
  have c30 := L.tl.tl.tl.b0.c30
  have c31 := L.tl.tl.tl.b0.c31
  have c32 := L.tl.tl.tl.b0.c32
  go_wp2_with fail
  clear c00 f00 c01 f01 c10 f10 c11 f11 c20 f20 c21 f21 c30 c31 c32
  have LP := L.pull2.putZ (by omega) (by first | (simp; done) | (simp; omega)) (ng q) A1 (zl q) c1
  have k0 := LP.b0.c20
  have k1 := LP.b0.c21
  unfold put2 at k0 k1
  exact bodyPost_ret (v := .agg #[.bool (ng q), .slice A1 (zl q) c1]) (by simp [results, Tryd.results93, go_sem, k0, k1]) rfl ⟨_, rfl, LP.getZ (by simp), LP.below⟩
end Go.Proofs.YtgjljalcgiddgaaDoor
