/- The mill's intervals; the laws' two, and their interval between two integers. -/
import Derived.Test.YtgcmdlannbobgaaDoorRefIvA
import Derived.Test.YtgcmdlannbobgaaDoorRefIvB
import Derived.Test.YtgcmdlannbobgaaDoorBaseE
import Derived.Deep.RegionHeld3
import Derived.Deep.DrawnRows
namespace Go.Proofs.YtgcmdlannbobgaaDoor
open Go.RowKit
set_option linter.unusedVariables false
set_option linter.unusedSimpArgs false
set_option maxRecDepth 100000
attribute [local go_sem ↓] Go.wp_at_zero Go.wp_at_succ

/-- A valid interval that is short enough, or what the mill left, and whether it is. -/
def RetMillI (w : World) (k K : Nat) (en : Ending) (w' : World) : Prop := ∃ v ok m e n f, en = .returned (.tuple #[v, .bool ok]) ∧ IsI w' v m e n f ∧ (zl m ≤ k + 1 ∧ zl n ≤ k + 1) ∧ (-(K : Int) ≤ e ∧ e ≤ (K : Int) + 32 * ((k : Int) + 1)) ∧ (-(K : Int) ≤ f ∧ f ≤ (K : Int) + 32 * ((k : Int) + 1)) ∧ (ok = true → Dv m e ∧ Dv n f) ∧ dcm m e n f ≤ 0 ∧ Below w.heap.size w w'

set_option maxHeartbeats 8000000 in
theorem millI_any (b b' : Bool) (l l' : List Nat) (k K : Nat) (A A' : Option Addr) (p c p' c' : Nat) (e e' : Int) (w : World) (h : Sl w A p c l) (h' : Sl w A' p' c' l') (hk : k ≤ 1000) (hK : K ≤ 1000) (h1 : -9223372036854775808 ≤ e) (h2 : e ≤ 9223372036854775807) (h3 : -9223372036854775808 ≤ e') (h4 : e' ≤ 9223372036854775807) :
    Calls Tryd.prog 7 #[.agg #[.bool b, .slice A p c, .int .i64 e, .bool b', .slice A' p' c', .int .i64 e'], .int .i64 (k : Int), .int .i64 (K : Int)] w (RetMillI w k K) := by
  have H1 := Lib.hid (fun W (hW : Below w.heap.size w W) => millD_any b l k K A p c e W (h.mono hW) (by omega) (by omega) h1 h2)
  have H2 := Lib.hid (fun W (hW : Below w.heap.size w W) => millD_any b' l' k K A' p' c' e' W (h'.mono hW) (by omega) (by omega) h3 h4)
  clear h h' h1 h2 h3 h4
  go_enter Tryd.func7, Tryd.ntmps7
  go_wp2_with fail
  have L := (((Lq.mk0 w).varI (w.heap.size) (by simp) b A p c e b' A' p' c' e').varI (w.heap.size + 1) (by simp) false none 0 0 0 false none 0 0 0)
  have c00 := L.b0.c60
  have c01 := L.b0.c61
  have c02 := L.b0.c62
  have c03 := L.b0.c63
  have c04 := L.b0.c64
  have c05 := L.b0.c65
  have c10 := L.tl.b0.c60
  have c11 := L.tl.b0.c61
  have c12 := L.tl.b0.c62
  have c13 := L.tl.b0.c63
  have c14 := L.tl.b0.c64
  have c15 := L.tl.b0.c65
  (try go_wp2_with fail)
  refine (H1.out _ L.below).mono ?_
  rintro e w1 ⟨v1, ok1, m, me, rfl, id, lm, lm2, lm3, dm, be⟩
  clear c00 c01 c02 c03 c04 c05 c10 c11 c12 c13 c14 c15
  obtain ⟨A1, c1, rfl, _, in9⟩ := id.form
  replace L := (L.step be).n in9
  clear be id in9
  have hlg := L.b0.lt
  replace L := L.varD w1.heap.size rfl (ng m) A1 (zl m) c1 me
  have c00 := L.b0.c30
  have c01 := L.b0.c31
  have c02 := L.b0.c32
  have c20 := L.tl.tl.b0.c60
  have c21 := L.tl.tl.b0.c61
  have c22 := L.tl.tl.b0.c62
  have c23 := L.tl.tl.b0.c63
  have c24 := L.tl.tl.b0.c64
  have c25 := L.tl.tl.b0.c65
  go_wp2_with fail
  obtain ⟨g, hg⟩ : ∃ g, w1.heap.size = g := ⟨_, rfl⟩
  rw [hg] at L hlg c00 c01 c02 ⊢
  clear hg
  clear c00 c01 c02 c20 c21 c22 c23 c24 c25
  refine (H2.out _ L.below).mono ?_
  rintro e w2 ⟨v2, ok2, n, ne, rfl, id, ln, ln2, ln3, dn, be⟩
  obtain ⟨A2, c2, rfl, _, in9⟩ := id.form
  replace L := (L.step be).n in9
  clear be id in9
  have hlk9 := L.b0.lt
  replace L := L.varD w2.heap.size rfl (ng n) A2 (zl n) c2 ne
  obtain ⟨x, hx⟩ : ∃ x, dcm m me n ne = x := ⟨_, rfl⟩
  have hc := fun v u W h1 h2 => rcmp8_any m me n ne v u W h1 h2 (by omega) (by omega) (by omega) (by omega)
  have hx2 := hx
  unfold dcm at hx2
  rw [hx2] at hc
  have HC := Lib.hid hc
  clear hc hx2
  have c00 := L.b0.c30
  have c01 := L.b0.c31
  have c02 := L.b0.c32
  have c10 := L.tl.b0.c30
  have c11 := L.tl.b0.c31
  have c12 := L.tl.b0.c32
  go_wp2_with fail
  obtain ⟨g2, hg⟩ : ∃ g, w2.heap.size = g := ⟨_, rfl⟩
  rw [hg] at L hlk9 c00 c01 c02 ⊢
  clear hg
  refine (HC.out _ _ _ (isD_n (s := .slice A1 (zl m) c1) (L.getN (by simp))) (isD_n (s := .slice A2 (zl n) c2) (L.getN (by simp)))).mono ?_
  rintro e w3 ⟨rfl, be⟩
  clear c00 c01 c02 c10 c11 c12
  replace L := L.step be
  clear be
  have n1 : g2 ≠ g := by omega
  have n2 : w.heap.size + 1 ≠ g := by omega
  have n3 : w.heap.size + 1 ≠ g2 := by omega
  have n4 : w.heap.size ≠ g := by omega
  have n5 : w.heap.size ≠ g2 := by omega
  by_cases q : 0 < x
  · have b1 : decide (0 < x) = true := decide_eq_true q
    have c00 := L.b0.c30
    have f00 := L.b0.fr 0
    have c01 := L.b0.c31
    have f01 := L.b0.fr 1
    have c02 := L.b0.c32
    have f02 := L.b0.fr 2
    have c10 := L.tl.b0.c30
    have f10 := L.tl.b0.fr 0
    have c11 := L.tl.b0.c31
    have f11 := L.tl.b0.fr 1
    have c12 := L.tl.b0.c32
    have f12 := L.tl.b0.fr 2
    have p1 := (L.swap.putD (by omega) (by simp [n1, n2, n3, n4, n5]) (ng n) A2 (zl n) c2 ne)
    have p2 := (p1.swap.putD (by omega) (by simp [n1, n2, n3, n4, n5, Ne.symm n1]) (ng m) A1 (zl m) c1 me)
    have x10 := p1.b0.c30
    have x11 := p1.b0.c31
    have x12 := p1.b0.c32
    have x20 := p1.tl.b0.c30
    have x21 := p1.tl.b0.c31
    have x22 := p1.tl.b0.c32
    have y20 := p1.tl.b0.fr 0
    have y21 := p1.tl.b0.fr 1
    have y22 := p1.tl.b0.fr 2
    have x30 := p2.b0.c30
    have x31 := p2.b0.c31
    have x32 := p2.b0.c32
    have x40 := p2.tl.b0.c30
    have x41 := p2.tl.b0.c31
    have x42 := p2.tl.b0.c32
    replace L := p2.pull2
    have z0 := L.b0.fr 0
    have z1 := L.b0.fr 1
    have z2 := L.b0.fr 2
    have z3 := L.b0.fr 3
    have z4 := L.b0.fr 4
    have z5 := L.b0.fr 5
    clear p1 p2
    unfold put3 at *
    have hxs : dcm n ne m me ≤ 0 := by rw [dcm_swap m me n ne, hx]; omega
    cases ok1
    · skip
      have c00 := L.b0.c60
      have f00 := L.b0.fr 0
      have c01 := L.b0.c61
      have f01 := L.b0.fr 1
      have c02 := L.b0.c62
      have f02 := L.b0.fr 2
      have c03 := L.b0.c63
      have f03 := L.b0.fr 3
      have c04 := L.b0.c64
      have f04 := L.b0.fr 4
      have c05 := L.b0.c65
      have f05 := L.b0.fr 5
      have c10 := L.tl.b0.c30
      have c11 := L.tl.b0.c31
      have c12 := L.tl.b0.c32
      have c20 := L.tl.tl.b0.c30
      have c21 := L.tl.tl.b0.c31
      have c22 := L.tl.tl.b0.c32
      go_wp2_with fail
      have LP := L.putI (by omega) (by simp [n1, n2, n3, n4, n5, Ne.symm n2, Ne.symm n3]) (ng n) A2 (zl n) c2 ne (ng m) A1 (zl m) c1 me
      have k0 := LP.b0.c60
      have k1 := LP.b0.c61
      have k2 := LP.b0.c62
      have k3 := LP.b0.c63
      have k4 := LP.b0.c64
      have k5 := LP.b0.c65
      unfold put6 at k0 k1 k2 k3 k4 k5
      exact bodyPost_ret (v := .tuple #[.agg #[.bool (ng n), .slice A2 (zl n) c2, .int .i64 ne, .bool (ng m), .slice A1 (zl m) c1, .int .i64 me], .bool false]) (by simp [results, Tryd.results7, go_sem, k0, k1, k2, k3, k4, k5]) rfl ⟨_, _, _, _, _, _, rfl, isI_n (LP.getN (by simp)) (LP.getN (by simp)), ⟨ln, lm⟩, ⟨by omega, by omega⟩, ⟨by omega, by omega⟩, fun h => (by cases h), hxs, LP.below⟩
    · skip
      have c00 := L.b0.c60
      have f00 := L.b0.fr 0
      have c01 := L.b0.c61
      have f01 := L.b0.fr 1
      have c02 := L.b0.c62
      have f02 := L.b0.fr 2
      have c03 := L.b0.c63
      have f03 := L.b0.fr 3
      have c04 := L.b0.c64
      have f04 := L.b0.fr 4
      have c05 := L.b0.c65
      have f05 := L.b0.fr 5
      have c10 := L.tl.b0.c30
      have c11 := L.tl.b0.c31
      have c12 := L.tl.b0.c32
      have c20 := L.tl.tl.b0.c30
      have c21 := L.tl.tl.b0.c31
      have c22 := L.tl.tl.b0.c32
      go_wp2_with fail
      have LP := L.putI (by omega) (by simp [n1, n2, n3, n4, n5, Ne.symm n2, Ne.symm n3]) (ng n) A2 (zl n) c2 ne (ng m) A1 (zl m) c1 me
      have k0 := LP.b0.c60
      have k1 := LP.b0.c61
      have k2 := LP.b0.c62
      have k3 := LP.b0.c63
      have k4 := LP.b0.c64
      have k5 := LP.b0.c65
      unfold put6 at k0 k1 k2 k3 k4 k5
      exact bodyPost_ret (v := .tuple #[.agg #[.bool (ng n), .slice A2 (zl n) c2, .int .i64 ne, .bool (ng m), .slice A1 (zl m) c1, .int .i64 me], .bool ok2]) (by simp [results, Tryd.results7, go_sem, k0, k1, k2, k3, k4, k5]) rfl ⟨_, _, _, _, _, _, rfl, isI_n (LP.getN (by simp)) (LP.getN (by simp)), ⟨ln, lm⟩, ⟨by omega, by omega⟩, ⟨by omega, by omega⟩, fun h => ⟨dn h, dm (by first | trivial | rfl)⟩, hxs, LP.below⟩
  · have b1 : decide (0 < x) = false := decide_eq_false q
    replace L := L.pull2
    cases ok1
    · skip
      have c00 := L.b0.c60
      have f00 := L.b0.fr 0
      have c01 := L.b0.c61
      have f01 := L.b0.fr 1
      have c02 := L.b0.c62
      have f02 := L.b0.fr 2
      have c03 := L.b0.c63
      have f03 := L.b0.fr 3
      have c04 := L.b0.c64
      have f04 := L.b0.fr 4
      have c05 := L.b0.c65
      have f05 := L.b0.fr 5
      have c10 := L.tl.b0.c30
      have c11 := L.tl.b0.c31
      have c12 := L.tl.b0.c32
      have c20 := L.tl.tl.b0.c30
      have c21 := L.tl.tl.b0.c31
      have c22 := L.tl.tl.b0.c32
      go_wp2_with fail
      have LP := L.putI (by omega) (by simp [n1, n2, n3, n4, n5, Ne.symm n2, Ne.symm n3]) (ng m) A1 (zl m) c1 me (ng n) A2 (zl n) c2 ne
      have k0 := LP.b0.c60
      have k1 := LP.b0.c61
      have k2 := LP.b0.c62
      have k3 := LP.b0.c63
      have k4 := LP.b0.c64
      have k5 := LP.b0.c65
      unfold put6 at k0 k1 k2 k3 k4 k5
      exact bodyPost_ret (v := .tuple #[.agg #[.bool (ng m), .slice A1 (zl m) c1, .int .i64 me, .bool (ng n), .slice A2 (zl n) c2, .int .i64 ne], .bool false]) (by simp [results, Tryd.results7, go_sem, k0, k1, k2, k3, k4, k5]) rfl ⟨_, _, _, _, _, _, rfl, isI_n (LP.getN (by simp)) (LP.getN (by simp)), ⟨lm, ln⟩, ⟨by omega, by omega⟩, ⟨by omega, by omega⟩, fun h => (by cases h), (by rw [hx]; omega), LP.below⟩
    · skip
      have c00 := L.b0.c60
      have f00 := L.b0.fr 0
      have c01 := L.b0.c61
      have f01 := L.b0.fr 1
      have c02 := L.b0.c62
      have f02 := L.b0.fr 2
      have c03 := L.b0.c63
      have f03 := L.b0.fr 3
      have c04 := L.b0.c64
      have f04 := L.b0.fr 4
      have c05 := L.b0.c65
      have f05 := L.b0.fr 5
      have c10 := L.tl.b0.c30
      have c11 := L.tl.b0.c31
      have c12 := L.tl.b0.c32
      have c20 := L.tl.tl.b0.c30
      have c21 := L.tl.tl.b0.c31
      have c22 := L.tl.tl.b0.c32
      go_wp2_with fail
      have LP := L.putI (by omega) (by simp [n1, n2, n3, n4, n5, Ne.symm n2, Ne.symm n3]) (ng m) A1 (zl m) c1 me (ng n) A2 (zl n) c2 ne
      have k0 := LP.b0.c60
      have k1 := LP.b0.c61
      have k2 := LP.b0.c62
      have k3 := LP.b0.c63
      have k4 := LP.b0.c64
      have k5 := LP.b0.c65
      unfold put6 at k0 k1 k2 k3 k4 k5
      exact bodyPost_ret (v := .tuple #[.agg #[.bool (ng m), .slice A1 (zl m) c1, .int .i64 me, .bool (ng n), .slice A2 (zl n) c2, .int .i64 ne], .bool ok2]) (by simp [results, Tryd.results7, go_sem, k0, k1, k2, k3, k4, k5]) rfl ⟨_, _, _, _, _, _, rfl, isI_n (LP.getN (by simp)) (LP.getN (by simp)), ⟨lm, ln⟩, ⟨by omega, by omega⟩, ⟨by omega, by omega⟩, fun h => ⟨dm (by first | trivial | rfl), dn h⟩, (by rw [hx]; omega), LP.below⟩
set_option maxHeartbeats 4000000 in
theorem of10_any (a b : Int) (w : World) (h1 : -1000 ≤ a ∧ a ≤ 1000) (h2 : -1000 ≤ b ∧ b ≤ 1000) :
    Calls Tryd.prog 27 #[.int .i64 a, .int .i64 b] w (RetI6 w (mkM a 0) (mkE a 0) (mkM b 0) (mkE b 0)) := by
  have HA := Lib.hid (fun W => rof8_any a W (by omega) (by omega))
  have HB := Lib.hid (fun W => rof8_any b W (by omega) (by omega))
  generalize mkM a 0 = m at *
  generalize mkE a 0 = e at *
  generalize mkM b 0 = n at *
  generalize mkE b 0 = f at *
  clear h1 h2
  go_enter Tryd.func27, Tryd.ntmps27
  go_wp2_with fail
  have L := ((Lq.mk0 w).varI (w.heap.size) (by simp) false none 0 0 0 false none 0 0 0)
  have c00 := L.b0.c60
  have f00 := L.b0.fr 0
  have c01 := L.b0.c61
  have f01 := L.b0.fr 1
  have c02 := L.b0.c62
  have f02 := L.b0.fr 2
  have c03 := L.b0.c63
  have f03 := L.b0.fr 3
  have c04 := L.b0.c64
  have f04 := L.b0.fr 4
  have c05 := L.b0.c65
  have f05 := L.b0.fr 5
  (try go_wp2_with fail)
  refine (HA.out _).mono ?_
  rintro e w1 ⟨v1, rfl, id, be⟩
  clear c00 f00 c01 f01 c02 f02 c03 f03 c04 f04 c05 f05
  obtain ⟨A, c, rfl, _, in9⟩ := id.form
  replace L := (L.step be).n in9
  clear be id in9
  have c00 := L.b0.c60
  have f00 := L.b0.fr 0
  have c01 := L.b0.c61
  have f01 := L.b0.fr 1
  have c02 := L.b0.c62
  have f02 := L.b0.fr 2
  have c03 := L.b0.c63
  have f03 := L.b0.fr 3
  have c04 := L.b0.c64
  have f04 := L.b0.fr 4
  have c05 := L.b0.c65
  have f05 := L.b0.fr 5
  (try go_wp2_with fail)
  refine (HB.out _).mono ?_
  rintro e w2 ⟨v2, rfl, id, be⟩
  clear c00 f00 c01 f01 c02 f02 c03 f03 c04 f04 c05 f05
  obtain ⟨B, d, rfl, _, in9⟩ := id.form
  replace L := (L.step be).n in9
  clear be id in9
  have c00 := L.b0.c60
  have f00 := L.b0.fr 0
  have c01 := L.b0.c61
  have f01 := L.b0.fr 1
  have c02 := L.b0.c62
  have f02 := L.b0.fr 2
  have c03 := L.b0.c63
  have f03 := L.b0.fr 3
  have c04 := L.b0.c64
  have f04 := L.b0.fr 4
  have c05 := L.b0.c65
  have f05 := L.b0.fr 5
  (try go_wp2_with fail)
  have LP := L.putI (by omega) (by first | (simp; done) | (simp; omega)) (ng m) A (zl m) c e (ng n) B (zl n) d f
  have k0 := LP.b0.c60
  have k1 := LP.b0.c61
  have k2 := LP.b0.c62
  have k3 := LP.b0.c63
  have k4 := LP.b0.c64
  have k5 := LP.b0.c65
  unfold put6 at k0 k1 k2 k3 k4 k5
  exact bodyPost_ret (v := .agg #[.bool (ng m), .slice A (zl m) c, .int .i64 e, .bool (ng n), .slice B (zl n) d, .int .i64 f]) (by simp [results, Tryd.results27, go_sem, k0, k1, k2, k3, k4, k5]) rfl ⟨_, rfl, isI_n (LP.getN (by simp)) (LP.getN (by simp)), LP.below⟩

end Go.Proofs.YtgcmdlannbobgaaDoor
