/- The laws' pair of fractions. -/
import Derived.Test.YtbndgggjfjdfbaaGreatDoorMillRat
import Derived.Deep.RegionHeld3
import Derived.Deep.DrawnRows
namespace Go.Proofs.YtbndgggjfjdfbaaGreatDoor
open Go.RowKit
set_option linter.unusedVariables false
set_option linter.unusedSimpArgs false
set_option maxRecDepth 100000
attribute [local go_sem ↓] Go.wp_at_zero Go.wp_at_succ

theorem Lq.four {w0 w : World} {ns : List (Value × Nat)} {zs : List (Value × Int)} {qs : List (Value × Int × Nat)} {p q r s t u : Nat × TypeId × Array Value} (h : Lq w0 w ns zs qs [p, q, r, s, t, u]) : Lq w0 w ns zs qs [s, r, q, p] :=
  ⟨h.below, h.ns, h.zs, h.qs, fun x hx => h.bs x (by simp only [List.mem_cons] at hx ⊢; rcases hx with h | h | h | h | h <;> simp_all)⟩
/-- Two valid fractions that are short enough, or what the mill left, and whether they are. -/
def RetTwoQ (w : World) (k : Nat) (e : Ending) (w' : World) : Prop := ∃ v u ok a d b c, e = .returned (.tuple #[v, u, .bool ok]) ∧ IsP w' v a d ∧ IsP w' u b c ∧ zl a ≤ k + 1 ∧ len d ≤ k + 1 ∧ zl b ≤ k + 1 ∧ len c ≤ k + 1 ∧ (ok = true → (∃ q : Rat, a = q.num ∧ d = q.den) ∧ ∃ q : Rat, b = q.num ∧ c = q.den) ∧ Below w.heap.size w w'

set_option maxHeartbeats 1000000 in
theorem two7_any (b b' : Bool) (l l2 l3 l4 : List Nat) (m : Nat) (A B C D : Option Addr) (n c n2 c2 n3 c3 n4 c4 : Nat) (w : World) (h : Sl w A n c l) (h2 : Sl w B n2 c2 l2) (h3 : Sl w C n3 c3 l3) (h4 : Sl w D n4 c4 l4) (hm : m ≤ 100000) :
    Calls Tryz.prog 16 #[.agg #[.bool b, .slice A n c, .slice B n2 c2], .agg #[.bool b', .slice C n3 c3, .slice D n4 c4], .int .i64 (m : Int)] w (RetTwoQ w m) := by
  have H1 := Lib.hid (fun W (hW : Below w.heap.size w W) => millRat_any b l l2 m A B n c n2 c2 W (h.mono hW) (h2.mono hW) hm)
  have H2 := Lib.hid (fun W (hW : Below w.heap.size w W) => millRat_any b' l3 l4 m C D n3 c3 n4 c4 W (h3.mono hW) (h4.mono hW) hm)
  clear h h2 h3 h4
  go_enter Tryz.func16, Tryz.ntmps16
  go_wp2_with fail
  have L := (((((Lq.mk0 w).varQ (w.heap.size) (by simp) b A B n c n2 c2).varQ (w.heap.size + 1) (by simp) b' C D n3 c3 n4 c4).varQ (w.heap.size + 2) (by simp) false none none 0 0 0 0).varQ (w.heap.size + 3) (by simp) false none none 0 0 0 0)
  have c00 := L.b0.c30
  have f00 := L.b0.fr 0
  have c01 := L.b0.c31
  have f01 := L.b0.fr 1
  have c02 := L.b0.c32
  have f02 := L.b0.fr 2
  have c10 := L.tl.b0.c30
  have c11 := L.tl.b0.c31
  have c12 := L.tl.b0.c32
  have c20 := L.tl.tl.b0.c30
  have c21 := L.tl.tl.b0.c31
  have c22 := L.tl.tl.b0.c32
  have c30 := L.tl.tl.tl.b0.c30
  have c31 := L.tl.tl.tl.b0.c31
  have c32 := L.tl.tl.tl.b0.c32
  refine (H1.out _ L.below).mono ?_
  rintro e w1 ⟨v1, ok1, p, d, rfl, i1, lp, ld, e1, be⟩
  clear c00 f00 c01 f01 c02 f02 c10 c11 c12 c20 c21 c22 c30 c31 c32
  replace L := (L.step be).q i1
  obtain ⟨A1, c5, B1, d5, rfl, _, _, _⟩ := i1.form
  clear be i1
  have hlt := L.b0.lt
  replace L := L.varQ w1.heap.size rfl (ng p) A1 B1 (zl p) c5 (len d) d5
  have c00 := L.b0.c30
  have f00 := L.b0.fr 0
  have c01 := L.b0.c31
  have f01 := L.b0.fr 1
  have c02 := L.b0.c32
  have f02 := L.b0.fr 2
  have c10 := L.tl.b0.c30
  have f10 := L.tl.b0.fr 0
  have c11 := L.tl.b0.c31
  have f11 := L.tl.b0.fr 1
  have c12 := L.tl.b0.c32
  have f12 := L.tl.b0.fr 2
  have c20 := L.tl.tl.b0.c30
  have f20 := L.tl.tl.b0.fr 0
  have c21 := L.tl.tl.b0.c31
  have f21 := L.tl.tl.b0.fr 1
  have c22 := L.tl.tl.b0.c32
  have f22 := L.tl.tl.b0.fr 2
  have c30 := L.tl.tl.tl.b0.c30
  have c31 := L.tl.tl.tl.b0.c31
  have c32 := L.tl.tl.tl.b0.c32
  have c40 := L.tl.tl.tl.tl.b0.c30
  have c41 := L.tl.tl.tl.tl.b0.c31
  have c42 := L.tl.tl.tl.tl.b0.c32
  go_wp2_with fail
  obtain ⟨g, hg⟩ : ∃ g, w1.heap.size = g := ⟨_, rfl⟩
  rw [hg] at L c00 c01 c02 f00 f01 f02 hlt ⊢
  clear hg
  refine (H2.out _ L.below).mono ?_
  rintro e w2 ⟨v2, ok2, q, e, rfl, i2, lq, le, e2, be⟩
  clear c00 f00 c01 f01 c02 f02 c10 f10 c11 f11 c12 f12 c20 f20 c21 f21 c22 f22 c30 c31 c32 c40 c41 c42
  replace L := (L.step be).q i2
  obtain ⟨A2, c6, B2, d6, rfl, _, _, _⟩ := i2.form
  clear be i2
  have hlt2 := L.b0.lt
  replace L := L.varQ w2.heap.size rfl (ng q) A2 B2 (zl q) c6 (len e) d6
  go_wp2_with fail
  obtain ⟨g1, h1⟩ : ∃ g1, w.heap.size + 1 + 1 = g1 := ⟨_, rfl⟩
  obtain ⟨g2, h2⟩ : ∃ g2, w.heap.size + 1 + 1 + 1 = g2 := ⟨_, rfl⟩
  obtain ⟨g3, h3⟩ : ∃ g3, w2.heap.size = g3 := ⟨_, rfl⟩
  have LL := L.four
  rw [show w.heap.size + 3 = g2 from h2, show w.heap.size + 2 = g1 from h1, h3] at LL
  rw [h2, h1, h3]
  have d1 : w.heap.size ≤ g1 := by omega
  have d2 : w.heap.size ≤ g2 := by omega
  have n0 : g1 ≠ g2 := by omega
  have n1 : g1 ≠ g := by omega
  have n2 : g1 ≠ g3 := by omega
  have n3 : g2 ≠ g := by omega
  have n4 : g2 ≠ g3 := by omega
  have n5 : g ≠ g3 := by omega
  clear L H1 H2 hlt hlt2 h1 h2 h3
  cases ok1
  · have hok : (false && ok2) = (false && ok2) := rfl
    have LP := LL.putQ d1 (by simp [n0, n1, n2, Ne.symm n0, Ne.symm n1, Ne.symm n2]) (ng p) A1 B1 (zl p) c5 (len d) d5
    have LR := LP.swap.putQ d2 (by simp [n0, n3, n4, Ne.symm n0, Ne.symm n3, Ne.symm n4]) (ng q) A2 B2 (zl q) c6 (len e) d6
    have x0 := LL.tl.tl.b0.c30
    have x1 := LL.tl.tl.b0.c31
    have x2 := LL.tl.tl.b0.c32
    have y0 := LL.tl.tl.tl.b0.c30
    have y1 := LL.tl.tl.tl.b0.c31
    have y2 := LL.tl.tl.tl.b0.c32
    have r0 := LL.b0.c30
    have r1 := LL.b0.c31
    have r2 := LL.b0.c32
    have t0 := LP.tl.b0.c30
    have t1 := LP.tl.b0.c31
    have t2 := LP.tl.b0.c32
    have f0 := LL.b0.fr 0
    have f1 := LL.b0.fr 1
    have f2 := LL.b0.fr 2
    have u0 := LP.tl.b0.fr 0
    have u1 := LP.tl.b0.fr 1
    have u2 := LP.tl.b0.fr 2
    have v0 := LP.tl.tl.b0.c30
    have v1 := LP.tl.tl.b0.c31
    have v2 := LP.tl.tl.b0.c32
    have s0 := LP.tl.tl.tl.b0.c30
    have s1 := LP.tl.tl.tl.b0.c31
    have s2 := LP.tl.tl.tl.b0.c32
    unfold put3 at t0 t1 t2 u0 u1 u2 v0 v1 v2 s0 s1 s2
    go_region
    all_goals
      go_wp2_with fail
      have k0 := LR.b0.c30
      have k1 := LR.b0.c31
      have k2 := LR.b0.c32
      have j0 := LR.tl.b0.c30
      have j1 := LR.tl.b0.c31
      have j2 := LR.tl.b0.c32
      unfold put3 at k0 k1 k2 j0 j1 j2
      exact bodyPost_ret (v := .tuple #[.agg #[.bool (ng p), .slice A1 (zl p) c5, .slice B1 (len d) d5], .agg #[.bool (ng q), .slice A2 (zl q) c6, .slice B2 (len e) d6], .bool false]) (by simp [results, Tryz.results16, go_sem, k0, k1, k2, j0, j1, j2]) rfl ⟨_, _, _, _, _, _, _, rfl, LR.drew.getQ (by simp), LR.drew.hq, lp, ld, lq, le, fun h => (by cases h), LR.drew.below⟩
  · have hok : (true && ok2) = (true && ok2) := rfl
    have LP := LL.putQ d1 (by simp [n0, n1, n2, Ne.symm n0, Ne.symm n1, Ne.symm n2]) (ng p) A1 B1 (zl p) c5 (len d) d5
    have LR := LP.swap.putQ d2 (by simp [n0, n3, n4, Ne.symm n0, Ne.symm n3, Ne.symm n4]) (ng q) A2 B2 (zl q) c6 (len e) d6
    have x0 := LL.tl.tl.b0.c30
    have x1 := LL.tl.tl.b0.c31
    have x2 := LL.tl.tl.b0.c32
    have y0 := LL.tl.tl.tl.b0.c30
    have y1 := LL.tl.tl.tl.b0.c31
    have y2 := LL.tl.tl.tl.b0.c32
    have r0 := LL.b0.c30
    have r1 := LL.b0.c31
    have r2 := LL.b0.c32
    have t0 := LP.tl.b0.c30
    have t1 := LP.tl.b0.c31
    have t2 := LP.tl.b0.c32
    have f0 := LL.b0.fr 0
    have f1 := LL.b0.fr 1
    have f2 := LL.b0.fr 2
    have u0 := LP.tl.b0.fr 0
    have u1 := LP.tl.b0.fr 1
    have u2 := LP.tl.b0.fr 2
    have v0 := LP.tl.tl.b0.c30
    have v1 := LP.tl.tl.b0.c31
    have v2 := LP.tl.tl.b0.c32
    have s0 := LP.tl.tl.tl.b0.c30
    have s1 := LP.tl.tl.tl.b0.c31
    have s2 := LP.tl.tl.tl.b0.c32
    unfold put3 at t0 t1 t2 u0 u1 u2 v0 v1 v2 s0 s1 s2
    go_region
    all_goals
      go_wp2_with fail
      have k0 := LR.b0.c30
      have k1 := LR.b0.c31
      have k2 := LR.b0.c32
      have j0 := LR.tl.b0.c30
      have j1 := LR.tl.b0.c31
      have j2 := LR.tl.b0.c32
      unfold put3 at k0 k1 k2 j0 j1 j2
      exact bodyPost_ret (v := .tuple #[.agg #[.bool (ng p), .slice A1 (zl p) c5, .slice B1 (len d) d5], .agg #[.bool (ng q), .slice A2 (zl q) c6, .slice B2 (len e) d6], .bool ok2]) (by simp [results, Tryz.results16, go_sem, k0, k1, k2, j0, j1, j2]) rfl ⟨_, _, _, _, _, _, _, rfl, LR.drew.getQ (by simp), LR.drew.hq, lp, ld, lq, le, fun h => ⟨e1 (by first | trivial | rfl), e2 h⟩, LR.drew.below⟩

end Go.Proofs.YtbndgggjfjdfbaaGreatDoor
