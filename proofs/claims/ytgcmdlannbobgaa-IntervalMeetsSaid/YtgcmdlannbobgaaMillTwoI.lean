/- The laws' pair of intervals. -/
import Derived.Test.YtgcmdlannbobgaaMillIv
import Derived.Deep.RegionHeld3
import Derived.Deep.DrawnRows
namespace Go.Proofs.Ytgcmdlannbobgaa
open Go.RowKit
set_option linter.unusedVariables false
set_option linter.unusedSimpArgs false
set_option maxRecDepth 100000
attribute [local go_sem ↓] Go.wp_at_zero Go.wp_at_succ

theorem Lq.four10 {w0 w : World} {ns : List (Value × Nat)} {zs : List (Value × Int)} {qs : List (Value × Int × Nat)} {p q r s t u : Nat × TypeId × Array Value} (h : Lq w0 w ns zs qs [p, q, r, s, t, u]) : Lq w0 w ns zs qs [s, r, q, p] :=
  ⟨h.below, h.ns, h.zs, h.qs, fun x hx => h.bs x (by simp only [List.mem_cons] at hx ⊢; rcases hx with h | h | h | h | h <;> simp_all)⟩
/-- Two valid intervals that are short enough, or what the mill left, and whether they are. -/
def RetTwoI (w : World) (en : Ending) (w' : World) : Prop := ∃ v u ok m e n f m2 e2 n2 f2, en = .returned (.tuple #[v, u, .bool ok]) ∧ IsI w' v m e n f ∧ IsI w' u m2 e2 n2 f2 ∧ (zl m ≤ 6 ∧ (-60 ≤ e ∧ e ≤ 252)) ∧ (zl n ≤ 6 ∧ (-60 ≤ f ∧ f ≤ 252)) ∧ (zl m2 ≤ 6 ∧ (-60 ≤ e2 ∧ e2 ≤ 252)) ∧ (zl n2 ≤ 6 ∧ (-60 ≤ f2 ∧ f2 ≤ 252)) ∧ (ok = true → Dv m e ∧ Dv n f ∧ Dv m2 e2 ∧ Dv n2 f2) ∧ dcm m e n f ≤ 0 ∧ dcm m2 e2 n2 f2 ≤ 0 ∧ Below w.heap.size w w'

set_option maxHeartbeats 8000000 in
theorem two10_any (b0 bb0 : Bool) (z0 zz0 : List Nat) (a0 aa0 : Option Addr) (len0 cap0 ll0 cc0 : Nat) (f0 ff0 : Int) (b1 bb1 : Bool) (z1 zz1 : List Nat) (a1 aa1 : Option Addr) (len1 cap1 ll1 cc1 : Nat) (f1 ff1 : Int) (w : World) (h0 : Sl w a0 len0 cap0 z0) (k0 : Sl w aa0 ll0 cc0 zz0) (u0 : -9223372036854775808 ≤ f0 ∧ f0 ≤ 9223372036854775807) (t0 : -9223372036854775808 ≤ ff0 ∧ ff0 ≤ 9223372036854775807) (h1 : Sl w a1 len1 cap1 z1) (k1 : Sl w aa1 ll1 cc1 zz1) (u1 : -9223372036854775808 ≤ f1 ∧ f1 ≤ 9223372036854775807) (t1 : -9223372036854775808 ≤ ff1 ∧ ff1 ≤ 9223372036854775807) :
    Calls Try.prog 16 #[.agg #[.bool b0, .slice a0 len0 cap0, .int .i64 f0, .bool bb0, .slice aa0 ll0 cc0, .int .i64 ff0], .agg #[.bool b1, .slice a1 len1 cap1, .int .i64 f1, .bool bb1, .slice aa1 ll1 cc1, .int .i64 ff1]] w (RetTwoI w) := by
  have H0 := Lib.hid (fun W (hW : Below w.heap.size w W) => millI_any b0 bb0 z0 zz0 5 60 a0 aa0 len0 cap0 ll0 cc0 f0 ff0 W (h0.mono hW) (k0.mono hW) (by omega) (by omega) u0.1 u0.2 t0.1 t0.2)
  have H1 := Lib.hid (fun W (hW : Below w.heap.size w W) => millI_any b1 bb1 z1 zz1 5 60 a1 aa1 len1 cap1 ll1 cc1 f1 ff1 W (h1.mono hW) (k1.mono hW) (by omega) (by omega) u1.1 u1.2 t1.1 t1.2)
  clear h0 h1 k0 k1 u0 u1 t0 t1
  go_enter Try.func16, Try.ntmps16
  go_wp2_with fail
  have L := (((((Lq.mk0 w).varI (w.heap.size) (by simp) b0 a0 len0 cap0 f0 bb0 aa0 ll0 cc0 ff0).varI (w.heap.size + 1) (by simp) b1 a1 len1 cap1 f1 bb1 aa1 ll1 cc1 ff1).varI (w.heap.size + 2) (by simp) false none 0 0 0 false none 0 0 0).varI (w.heap.size + 3) (by simp) false none 0 0 0 false none 0 0 0)
  have c00 := L.b0.c60
  have c01 := L.b0.c61
  have c02 := L.b0.c62
  have c03 := L.b0.c63
  have c04 := L.b0.c64
  have c05 := L.b0.c65
  have c10 := L.tl.b0.c60
  have c11 := L.tl.b0.c61
  have c12 := L.tl.b0.c62
  have c13 := L.tl.b0.c63
  have c14 := L.tl.b0.c64
  have c15 := L.tl.b0.c65
  have c20 := L.tl.tl.b0.c60
  have c21 := L.tl.tl.b0.c61
  have c22 := L.tl.tl.b0.c62
  have c23 := L.tl.tl.b0.c63
  have c24 := L.tl.tl.b0.c64
  have c25 := L.tl.tl.b0.c65
  have c30 := L.tl.tl.tl.b0.c60
  have c31 := L.tl.tl.tl.b0.c61
  have c32 := L.tl.tl.tl.b0.c62
  have c33 := L.tl.tl.tl.b0.c63
  have c34 := L.tl.tl.tl.b0.c64
  have c35 := L.tl.tl.tl.b0.c65
  (try go_wp2_with fail)
  refine (H0.out _ L.below).mono ?_
  rintro e w1 ⟨v1, ok1, m, e, n, f, rfl, ii, ⟨lzm, lzn⟩, ⟨x1e, x2e⟩, ⟨x1f, x2f⟩, dv1, le1, be⟩
  clear c00 c01 c02 c03 c04 c05 c10 c11 c12 c13 c14 c15 c20 c21 c22 c23 c24 c25 c30 c31 c32 c33 c34 c35
  obtain ⟨A, c, B, d, rfl, ia, ib⟩ := ii.form
  replace L := ((L.step be).n ib).n ia
  clear be ii ia ib
  have hlt1 := L.b0.lt
  replace L := L.varI w1.heap.size rfl (ng m) A (zl m) c e (ng n) B (zl n) d f
  have c00 := L.b0.c60
  have c01 := L.b0.c61
  have c02 := L.b0.c62
  have c03 := L.b0.c63
  have c04 := L.b0.c64
  have c05 := L.b0.c65
  have c30 := L.tl.tl.tl.b0.c60
  have c31 := L.tl.tl.tl.b0.c61
  have c32 := L.tl.tl.tl.b0.c62
  have c33 := L.tl.tl.tl.b0.c63
  have c34 := L.tl.tl.tl.b0.c64
  have c35 := L.tl.tl.tl.b0.c65
  go_wp2_with fail
  obtain ⟨g, hg⟩ : ∃ g, w1.heap.size = g := ⟨_, rfl⟩
  rw [hg] at L hlt1 c00 c01 c02 c03 c04 c05 ⊢
  clear hg
  refine (H1.out _ L.below).mono ?_
  rintro e w2 ⟨v2, ok2, m2, e2, n2, f2, rfl, ii, ⟨lzm2, lzn2⟩, ⟨x1e2, x2e2⟩, ⟨x1f2, x2f2⟩, dv2, le2, be⟩
  clear c00 c01 c02 c03 c04 c05 c30 c31 c32 c33 c34 c35
  obtain ⟨A2, k2, B2, d2, rfl, ia, ib⟩ := ii.form
  replace L := ((L.step be).n ib).n ia
  clear be ii ia ib
  have hlt2 := L.b0.lt
  replace L := L.varI w2.heap.size rfl (ng m2) A2 (zl m2) k2 e2 (ng n2) B2 (zl n2) d2 f2
  go_wp2_with fail
  obtain ⟨g1, h1⟩ : ∃ g1, w.heap.size + 1 + 1 = g1 := ⟨_, rfl⟩
  obtain ⟨g2, h2⟩ : ∃ g2, w.heap.size + 1 + 1 + 1 = g2 := ⟨_, rfl⟩
  obtain ⟨g3, h3⟩ : ∃ g3, w2.heap.size = g3 := ⟨_, rfl⟩
  have LL := L.four10
  rw [show w.heap.size + 3 = g2 from h2, show w.heap.size + 2 = g1 from h1, h3] at LL
  rw [h2, h1, h3]
  have d1 : w.heap.size ≤ g1 := by omega
  have dd2 : w.heap.size ≤ g2 := by omega
  have n0 : g1 ≠ g2 := by omega
  have n1 : g1 ≠ g := by omega
  have nn2 : g1 ≠ g3 := by omega
  have n3 : g2 ≠ g := by omega
  have n4 : g2 ≠ g3 := by omega
  have n5 : g ≠ g3 := by omega
  clear L H0 H1 hlt1 hlt2 h1 h2 h3
  cases ok1
  · have hok : (false && ok2) = (false && ok2) := rfl
    have LP := LL.putI d1 (by simp [n0, n1, nn2, Ne.symm n0, Ne.symm n1, Ne.symm nn2]) (ng m) A (zl m) c e (ng n) B (zl n) d f
    have LR := LP.swap.putI dd2 (by simp [n0, n3, n4, Ne.symm n0, Ne.symm n3, Ne.symm n4]) (ng m2) A2 (zl m2) k2 e2 (ng n2) B2 (zl n2) d2 f2
    have x0' := LL.tl.tl.b0.c60
    have x1' := LL.tl.tl.b0.c61
    have x2' := LL.tl.tl.b0.c62
    have x3' := LL.tl.tl.b0.c63
    have x4' := LL.tl.tl.b0.c64
    have x5' := LL.tl.tl.b0.c65
    have y0' := LL.tl.tl.tl.b0.c60
    have y1' := LL.tl.tl.tl.b0.c61
    have y2' := LL.tl.tl.tl.b0.c62
    have y3' := LL.tl.tl.tl.b0.c63
    have y4' := LL.tl.tl.tl.b0.c64
    have y5' := LL.tl.tl.tl.b0.c65
    have r0' := LL.b0.c60
    have r1' := LL.b0.c61
    have r2' := LL.b0.c62
    have r3' := LL.b0.c63
    have r4' := LL.b0.c64
    have r5' := LL.b0.c65
    have t0' := LP.tl.b0.c60
    have t1' := LP.tl.b0.c61
    have t2' := LP.tl.b0.c62
    have t3' := LP.tl.b0.c63
    have t4' := LP.tl.b0.c64
    have t5' := LP.tl.b0.c65
    have p0' := LL.b0.fr 0
    have p1' := LL.b0.fr 1
    have p2' := LL.b0.fr 2
    have p3' := LL.b0.fr 3
    have p4' := LL.b0.fr 4
    have p5' := LL.b0.fr 5
    have u0' := LP.tl.b0.fr 0
    have u1' := LP.tl.b0.fr 1
    have u2' := LP.tl.b0.fr 2
    have u3' := LP.tl.b0.fr 3
    have u4' := LP.tl.b0.fr 4
    have u5' := LP.tl.b0.fr 5
    have v0' := LP.tl.tl.b0.c60
    have v1' := LP.tl.tl.b0.c61
    have v2' := LP.tl.tl.b0.c62
    have v3' := LP.tl.tl.b0.c63
    have v4' := LP.tl.tl.b0.c64
    have v5' := LP.tl.tl.b0.c65
    have s0' := LP.tl.tl.tl.b0.c60
    have s1' := LP.tl.tl.tl.b0.c61
    have s2' := LP.tl.tl.tl.b0.c62
    have s3' := LP.tl.tl.tl.b0.c63
    have s4' := LP.tl.tl.tl.b0.c64
    have s5' := LP.tl.tl.tl.b0.c65
    unfold put6 at t0' t1' t2' t3' t4' t5' u0' u1' u2' u3' u4' u5' v0' v1' v2' v3' v4' v5' s0' s1' s2' s3' s4' s5'
    go_region
    all_goals
      go_wp2_with fail
      have kk0 := LR.b0.c60
      have jj0 := LR.tl.b0.c60
      have kk1 := LR.b0.c61
      have jj1 := LR.tl.b0.c61
      have kk2 := LR.b0.c62
      have jj2 := LR.tl.b0.c62
      have kk3 := LR.b0.c63
      have jj3 := LR.tl.b0.c63
      have kk4 := LR.b0.c64
      have jj4 := LR.tl.b0.c64
      have kk5 := LR.b0.c65
      have jj5 := LR.tl.b0.c65
      unfold put6 at kk0 jj0 kk1 jj1 kk2 jj2 kk3 jj3 kk4 jj4 kk5 jj5
      exact bodyPost_ret (v := .tuple #[.agg #[.bool (ng m), .slice A (zl m) c, .int .i64 e, .bool (ng n), .slice B (zl n) d, .int .i64 f], .agg #[.bool (ng m2), .slice A2 (zl m2) k2, .int .i64 e2, .bool (ng n2), .slice B2 (zl n2) d2, .int .i64 f2], .bool false]) (by simp [results, Try.results16, go_sem, kk0, jj0, kk1, jj1, kk2, jj2, kk3, jj3, kk4, jj4, kk5, jj5]) rfl ⟨_, _, _, _, _, _, _, _, _, _, _, rfl, isI_n (LR.drew.getN (by simp)) (LR.drew.getN (by simp)), isI_n (LR.drew.getN (by simp)) (LR.drew.getN (by simp)), ⟨by omega, by omega, by omega⟩, ⟨by omega, by omega, by omega⟩, ⟨by omega, by omega, by omega⟩, ⟨by omega, by omega, by omega⟩, fun h => (by cases h), le1, le2, LR.drew.below⟩
  · have hok : (true && ok2) = (true && ok2) := rfl
    have LP := LL.putI d1 (by simp [n0, n1, nn2, Ne.symm n0, Ne.symm n1, Ne.symm nn2]) (ng m) A (zl m) c e (ng n) B (zl n) d f
    have LR := LP.swap.putI dd2 (by simp [n0, n3, n4, Ne.symm n0, Ne.symm n3, Ne.symm n4]) (ng m2) A2 (zl m2) k2 e2 (ng n2) B2 (zl n2) d2 f2
    have x0' := LL.tl.tl.b0.c60
    have x1' := LL.tl.tl.b0.c61
    have x2' := LL.tl.tl.b0.c62
    have x3' := LL.tl.tl.b0.c63
    have x4' := LL.tl.tl.b0.c64
    have x5' := LL.tl.tl.b0.c65
    have y0' := LL.tl.tl.tl.b0.c60
    have y1' := LL.tl.tl.tl.b0.c61
    have y2' := LL.tl.tl.tl.b0.c62
    have y3' := LL.tl.tl.tl.b0.c63
    have y4' := LL.tl.tl.tl.b0.c64
    have y5' := LL.tl.tl.tl.b0.c65
    have r0' := LL.b0.c60
    have r1' := LL.b0.c61
    have r2' := LL.b0.c62
    have r3' := LL.b0.c63
    have r4' := LL.b0.c64
    have r5' := LL.b0.c65
    have t0' := LP.tl.b0.c60
    have t1' := LP.tl.b0.c61
    have t2' := LP.tl.b0.c62
    have t3' := LP.tl.b0.c63
    have t4' := LP.tl.b0.c64
    have t5' := LP.tl.b0.c65
    have p0' := LL.b0.fr 0
    have p1' := LL.b0.fr 1
    have p2' := LL.b0.fr 2
    have p3' := LL.b0.fr 3
    have p4' := LL.b0.fr 4
    have p5' := LL.b0.fr 5
    have u0' := LP.tl.b0.fr 0
    have u1' := LP.tl.b0.fr 1
    have u2' := LP.tl.b0.fr 2
    have u3' := LP.tl.b0.fr 3
    have u4' := LP.tl.b0.fr 4
    have u5' := LP.tl.b0.fr 5
    have v0' := LP.tl.tl.b0.c60
    have v1' := LP.tl.tl.b0.c61
    have v2' := LP.tl.tl.b0.c62
    have v3' := LP.tl.tl.b0.c63
    have v4' := LP.tl.tl.b0.c64
    have v5' := LP.tl.tl.b0.c65
    have s0' := LP.tl.tl.tl.b0.c60
    have s1' := LP.tl.tl.tl.b0.c61
    have s2' := LP.tl.tl.tl.b0.c62
    have s3' := LP.tl.tl.tl.b0.c63
    have s4' := LP.tl.tl.tl.b0.c64
    have s5' := LP.tl.tl.tl.b0.c65
    unfold put6 at t0' t1' t2' t3' t4' t5' u0' u1' u2' u3' u4' u5' v0' v1' v2' v3' v4' v5' s0' s1' s2' s3' s4' s5'
    go_region
    all_goals
      go_wp2_with fail
      have kk0 := LR.b0.c60
      have jj0 := LR.tl.b0.c60
      have kk1 := LR.b0.c61
      have jj1 := LR.tl.b0.c61
      have kk2 := LR.b0.c62
      have jj2 := LR.tl.b0.c62
      have kk3 := LR.b0.c63
      have jj3 := LR.tl.b0.c63
      have kk4 := LR.b0.c64
      have jj4 := LR.tl.b0.c64
      have kk5 := LR.b0.c65
      have jj5 := LR.tl.b0.c65
      unfold put6 at kk0 jj0 kk1 jj1 kk2 jj2 kk3 jj3 kk4 jj4 kk5 jj5
      exact bodyPost_ret (v := .tuple #[.agg #[.bool (ng m), .slice A (zl m) c, .int .i64 e, .bool (ng n), .slice B (zl n) d, .int .i64 f], .agg #[.bool (ng m2), .slice A2 (zl m2) k2, .int .i64 e2, .bool (ng n2), .slice B2 (zl n2) d2, .int .i64 f2], .bool ok2]) (by simp [results, Try.results16, go_sem, kk0, jj0, kk1, jj1, kk2, jj2, kk3, jj3, kk4, jj4, kk5, jj5]) rfl ⟨_, _, _, _, _, _, _, _, _, _, _, rfl, isI_n (LR.drew.getN (by simp)) (LR.drew.getN (by simp)), isI_n (LR.drew.getN (by simp)) (LR.drew.getN (by simp)), ⟨by omega, by omega, by omega⟩, ⟨by omega, by omega, by omega⟩, ⟨by omega, by omega, by omega⟩, ⟨by omega, by omega, by omega⟩, fun h => ⟨(dv1 (by first | trivial | rfl)).1, (dv1 (by first | trivial | rfl)).2, (dv2 h).1, (dv2 h).2⟩, le1, le2, LR.drew.below⟩

end Go.Proofs.Ytgcmdlannbobgaa
