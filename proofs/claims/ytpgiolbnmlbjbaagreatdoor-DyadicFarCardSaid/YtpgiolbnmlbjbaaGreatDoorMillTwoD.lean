/- The laws' pair of dyadics. -/
import Derived.Test.YtpgiolbnmlbjbaaGreatDoorMillDy
import Derived.Deep.RegionHeld3
import Derived.Deep.DrawnRows
namespace Go.Proofs.YtpgiolbnmlbjbaaGreatDoor
open Go.RowKit
set_option linter.unusedVariables false
set_option linter.unusedSimpArgs false
set_option maxRecDepth 100000
attribute [local go_sem ↓] Go.wp_at_zero Go.wp_at_succ

theorem Lq.four8 {w0 w : World} {ns : List (Value × Nat)} {zs : List (Value × Int)} {qs : List (Value × Int × Nat)} {p q r s t u : Nat × TypeId × Array Value} (h : Lq w0 w ns zs qs [p, q, r, s, t, u]) : Lq w0 w ns zs qs [s, r, q, p] :=
  ⟨h.below, h.ns, h.zs, h.qs, fun x hx => h.bs x (by simp only [List.mem_cons] at hx ⊢; rcases hx with h | h | h | h | h <;> simp_all)⟩
/-- Two valid dyadics that are short enough, or what the mill left, and whether they are. -/
def RetTwoD (w : World) (k K : Nat) (e : Ending) (w' : World) : Prop := ∃ v u ok x f y h, e = .returned (.tuple #[v, u, .bool ok]) ∧ IsD w' v x f ∧ IsD w' u y h ∧ zl x ≤ k + 1 ∧ zl y ≤ k + 1 ∧ -(K : Int) ≤ f ∧ f ≤ (K : Int) + 32 * ((k : Int) + 1) ∧ -(K : Int) ≤ h ∧ h ≤ (K : Int) + 32 * ((k : Int) + 1) ∧ (ok = true → Dv x f ∧ Dv y h) ∧ Below w.heap.size w w'

set_option maxHeartbeats 1000000 in
theorem two8_any (b b' : Bool) (l l2 : List Nat) (A C : Option Addr) (n c n3 c3 : Nat) (e e' : Int) (w : World) (h : Sl w A n c l) (h2 : Sl w C n3 c3 l2) (he1 : -9223372036854775808 ≤ e) (he2 : e ≤ 9223372036854775807) (he3 : -9223372036854775808 ≤ e') (he4 : e' ≤ 9223372036854775807) :
    Calls Tryz.prog 21 #[.agg #[.bool b, .slice A n c, .int .i64 e], .agg #[.bool b', .slice C n3 c3, .int .i64 e']] w (RetTwoD w 12 300) := by
  have H1 := Lib.hid (fun W (hW : Below w.heap.size w W) => millD_any b l 12 300 A n c e W (h.mono hW) (by omega) (by omega) he1 he2)
  have H2 := Lib.hid (fun W (hW : Below w.heap.size w W) => millD_any b' l2 12 300 C n3 c3 e' W (h2.mono hW) (by omega) (by omega) he3 he4)
  clear h h2
  go_enter Tryz.func21, Tryz.ntmps21
  go_wp2_with fail
  have L := (((((Lq.mk0 w).varD (w.heap.size) (by simp) b A n c e).varD (w.heap.size + 1) (by simp) b' C n3 c3 e').varD (w.heap.size + 2) (by simp) false none 0 0 0).varD (w.heap.size + 3) (by simp) false none 0 0 0)
  have c00 := L.b0.c30
  have f00 := L.b0.fr 0
  have c01 := L.b0.c31
  have f01 := L.b0.fr 1
  have c02 := L.b0.c32
  have f02 := L.b0.fr 2
  have c10 := L.tl.b0.c30
  have c11 := L.tl.b0.c31
  have c12 := L.tl.b0.c32
  have c20 := L.tl.tl.b0.c30
  have c21 := L.tl.tl.b0.c31
  have c22 := L.tl.tl.b0.c32
  have c30 := L.tl.tl.tl.b0.c30
  have c31 := L.tl.tl.tl.b0.c31
  have c32 := L.tl.tl.tl.b0.c32
  refine (H1.out _ L.below).mono ?_
  rintro e w1 ⟨v1, ok1, p, pe, rfl, i1, lp, lp2, lp3, e1, be⟩
  clear c00 f00 c01 f01 c02 f02 c10 c11 c12 c20 c21 c22 c30 c31 c32
  obtain ⟨A1, c5, rfl, _, in1⟩ := i1.form
  replace L := (L.step be).n in1
  clear be i1 in1
  have hlt := L.b0.lt
  replace L := L.varD w1.heap.size rfl (ng p) A1 (zl p) c5 pe
  have c00 := L.b0.c30
  have f00 := L.b0.fr 0
  have c01 := L.b0.c31
  have f01 := L.b0.fr 1
  have c02 := L.b0.c32
  have f02 := L.b0.fr 2
  have c10 := L.tl.b0.c30
  have f10 := L.tl.b0.fr 0
  have c11 := L.tl.b0.c31
  have f11 := L.tl.b0.fr 1
  have c12 := L.tl.b0.c32
  have f12 := L.tl.b0.fr 2
  have c20 := L.tl.tl.b0.c30
  have f20 := L.tl.tl.b0.fr 0
  have c21 := L.tl.tl.b0.c31
  have f21 := L.tl.tl.b0.fr 1
  have c22 := L.tl.tl.b0.c32
  have f22 := L.tl.tl.b0.fr 2
  have c30 := L.tl.tl.tl.b0.c30
  have c31 := L.tl.tl.tl.b0.c31
  have c32 := L.tl.tl.tl.b0.c32
  have c40 := L.tl.tl.tl.tl.b0.c30
  have c41 := L.tl.tl.tl.tl.b0.c31
  have c42 := L.tl.tl.tl.tl.b0.c32
  go_wp2_with fail
  obtain ⟨g, hg⟩ : ∃ g, w1.heap.size = g := ⟨_, rfl⟩
  rw [hg] at L c00 c01 c02 f00 f01 f02 hlt ⊢
  clear hg
  refine (H2.out _ L.below).mono ?_
  rintro e w2 ⟨v2, ok2, q, qe, rfl, i2, lq, lq2, lq3, e2, be⟩
  clear c00 f00 c01 f01 c02 f02 c10 f10 c11 f11 c12 f12 c20 f20 c21 f21 c22 f22 c30 c31 c32 c40 c41 c42
  obtain ⟨A2, c6, rfl, _, in2⟩ := i2.form
  replace L := (L.step be).n in2
  clear be i2 in2
  have hlt2 := L.b0.lt
  replace L := L.varD w2.heap.size rfl (ng q) A2 (zl q) c6 qe
  go_wp2_with fail
  obtain ⟨g1, h1⟩ : ∃ g1, w.heap.size + 1 + 1 = g1 := ⟨_, rfl⟩
  obtain ⟨g2, h2⟩ : ∃ g2, w.heap.size + 1 + 1 + 1 = g2 := ⟨_, rfl⟩
  obtain ⟨g3, h3⟩ : ∃ g3, w2.heap.size = g3 := ⟨_, rfl⟩
  have LL := L.four8
  rw [show w.heap.size + 3 = g2 from h2, show w.heap.size + 2 = g1 from h1, h3] at LL
  rw [h2, h1, h3]
  have d1 : w.heap.size ≤ g1 := by omega
  have d2 : w.heap.size ≤ g2 := by omega
  have n0 : g1 ≠ g2 := by omega
  have n1 : g1 ≠ g := by omega
  have n2 : g1 ≠ g3 := by omega
  have n3 : g2 ≠ g := by omega
  have n4 : g2 ≠ g3 := by omega
  have n5 : g ≠ g3 := by omega
  clear L H1 H2 hlt hlt2 h1 h2 h3
  cases ok1
  · have hok : (false && ok2) = (false && ok2) := rfl
    have LP := LL.putD d1 (by simp [n0, n1, n2, Ne.symm n0, Ne.symm n1, Ne.symm n2]) (ng p) A1 (zl p) c5 pe
    have LR := LP.swap.putD d2 (by simp [n0, n3, n4, Ne.symm n0, Ne.symm n3, Ne.symm n4]) (ng q) A2 (zl q) c6 qe
    have x0 := LL.tl.tl.b0.c30
    have x1 := LL.tl.tl.b0.c31
    have x2 := LL.tl.tl.b0.c32
    have y0 := LL.tl.tl.tl.b0.c30
    have y1 := LL.tl.tl.tl.b0.c31
    have y2 := LL.tl.tl.tl.b0.c32
    have r0 := LL.b0.c30
    have r1 := LL.b0.c31
    have r2 := LL.b0.c32
    have t0 := LP.tl.b0.c30
    have t1 := LP.tl.b0.c31
    have t2 := LP.tl.b0.c32
    have f0 := LL.b0.fr 0
    have f1 := LL.b0.fr 1
    have f2 := LL.b0.fr 2
    have u0 := LP.tl.b0.fr 0
    have u1 := LP.tl.b0.fr 1
    have u2 := LP.tl.b0.fr 2
    have v0 := LP.tl.tl.b0.c30
    have v1 := LP.tl.tl.b0.c31
    have v2 := LP.tl.tl.b0.c32
    have s0 := LP.tl.tl.tl.b0.c30
    have s1 := LP.tl.tl.tl.b0.c31
    have s2 := LP.tl.tl.tl.b0.c32
    unfold put3 at t0 t1 t2 u0 u1 u2 v0 v1 v2 s0 s1 s2
    go_region
    all_goals
      go_wp2_with fail
      have k0 := LR.b0.c30
      have k1 := LR.b0.c31
      have k2 := LR.b0.c32
      have j0 := LR.tl.b0.c30
      have j1 := LR.tl.b0.c31
      have j2 := LR.tl.b0.c32
      unfold put3 at k0 k1 k2 j0 j1 j2
      exact bodyPost_ret (v := .tuple #[.agg #[.bool (ng p), .slice A1 (zl p) c5, .int .i64 pe], .agg #[.bool (ng q), .slice A2 (zl q) c6, .int .i64 qe], .bool false]) (by simp [results, Tryz.results21, go_sem, k0, k1, k2, j0, j1, j2]) rfl ⟨_, _, _, _, _, _, _, rfl, isD_n (LR.drew.getN (by simp)), isD_n LR.drew.hn, lp, lq, by omega, by omega, by omega, by omega, fun h => (by cases h), LR.drew.below⟩
  · have hok : (true && ok2) = (true && ok2) := rfl
    have LP := LL.putD d1 (by simp [n0, n1, n2, Ne.symm n0, Ne.symm n1, Ne.symm n2]) (ng p) A1 (zl p) c5 pe
    have LR := LP.swap.putD d2 (by simp [n0, n3, n4, Ne.symm n0, Ne.symm n3, Ne.symm n4]) (ng q) A2 (zl q) c6 qe
    have x0 := LL.tl.tl.b0.c30
    have x1 := LL.tl.tl.b0.c31
    have x2 := LL.tl.tl.b0.c32
    have y0 := LL.tl.tl.tl.b0.c30
    have y1 := LL.tl.tl.tl.b0.c31
    have y2 := LL.tl.tl.tl.b0.c32
    have r0 := LL.b0.c30
    have r1 := LL.b0.c31
    have r2 := LL.b0.c32
    have t0 := LP.tl.b0.c30
    have t1 := LP.tl.b0.c31
    have t2 := LP.tl.b0.c32
    have f0 := LL.b0.fr 0
    have f1 := LL.b0.fr 1
    have f2 := LL.b0.fr 2
    have u0 := LP.tl.b0.fr 0
    have u1 := LP.tl.b0.fr 1
    have u2 := LP.tl.b0.fr 2
    have v0 := LP.tl.tl.b0.c30
    have v1 := LP.tl.tl.b0.c31
    have v2 := LP.tl.tl.b0.c32
    have s0 := LP.tl.tl.tl.b0.c30
    have s1 := LP.tl.tl.tl.b0.c31
    have s2 := LP.tl.tl.tl.b0.c32
    unfold put3 at t0 t1 t2 u0 u1 u2 v0 v1 v2 s0 s1 s2
    go_region
    all_goals
      go_wp2_with fail
      have k0 := LR.b0.c30
      have k1 := LR.b0.c31
      have k2 := LR.b0.c32
      have j0 := LR.tl.b0.c30
      have j1 := LR.tl.b0.c31
      have j2 := LR.tl.b0.c32
      unfold put3 at k0 k1 k2 j0 j1 j2
      exact bodyPost_ret (v := .tuple #[.agg #[.bool (ng p), .slice A1 (zl p) c5, .int .i64 pe], .agg #[.bool (ng q), .slice A2 (zl q) c6, .int .i64 qe], .bool ok2]) (by simp [results, Tryz.results21, go_sem, k0, k1, k2, j0, j1, j2]) rfl ⟨_, _, _, _, _, _, _, rfl, isD_n (LR.drew.getN (by simp)), isD_n LR.drew.hn, lp, lq, by omega, by omega, by omega, by omega, fun h => ⟨e1 (by first | trivial | rfl), e2 h⟩, LR.drew.below⟩

end Go.Proofs.YtpgiolbnmlbjbaaGreatDoor
