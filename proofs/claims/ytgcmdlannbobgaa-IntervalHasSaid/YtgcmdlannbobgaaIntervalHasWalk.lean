/- The walk of IntervalHas: whatever the input, the law returns true and turns nothing that was there. -/
import Derived.Test.YtgcmdlannbobgaaAwake10
import Derived.Test.YtgcmdlannbobgaaIvMath2
import Derived.Test.YtgcmdlannbobgaaMillTwoI
import Derived.Test.YtgcmdlannbobgaaBaseF
import Derived.Deep.RegionHeld3
import Derived.Deep.DrawnRows
namespace Go.Proofs.Ytgcmdlannbobgaa
open Go.RowKit
set_option linter.unusedVariables false
set_option linter.unusedSimpArgs false
set_option maxRecDepth 100000
attribute [local go_sem ↓] Go.wp_at_zero Go.wp_at_succ

set_option maxHeartbeats 8000000 in
theorem walk_IntervalHas (b0 : Bool) (a0 : Option Addr) (len0 cap0 : Nat) (z0 : List Nat) (f0 : Int) (bb0 : Bool) (aa0 : Option Addr) (ll0 cc0 : Nat) (zz0 : List Nat) (ff0 : Int) (b1 : Bool) (a1 : Option Addr) (len1 cap1 : Nat) (z1 : List Nat) (f1 : Int) (bb1 : Bool) (aa1 : Option Addr) (ll1 cc1 : Nat) (zz1 : List Nat) (ff1 : Int) (b2 : Bool) (a2 : Option Addr) (len2 cap2 : Nat) (z2 : List Nat) (x2 : Option Addr) (nen2 nap2 : Nat) (y2 : List Nat) (w : World) (h0 : Sl w a0 len0 cap0 z0 ∧ -9223372036854775808 ≤ f0 ∧ f0 ≤ 9223372036854775807) (k0 : Sl w aa0 ll0 cc0 zz0 ∧ -9223372036854775808 ≤ ff0 ∧ ff0 ≤ 9223372036854775807) (h1 : Sl w a1 len1 cap1 z1 ∧ -9223372036854775808 ≤ f1 ∧ f1 ≤ 9223372036854775807) (k1 : Sl w aa1 ll1 cc1 zz1 ∧ -9223372036854775808 ≤ ff1 ∧ ff1 ≤ 9223372036854775807) (h2 : Sl w a2 len2 cap2 z2 ∧ Sl w x2 nen2 nap2 y2) :
    Calls Try.prog 4 #[.agg #[.bool b0, .slice a0 len0 cap0, .int .i64 f0, .bool bb0, .slice aa0 ll0 cc0, .int .i64 ff0], .agg #[.bool b1, .slice a1 len1 cap1, .int .i64 f1, .bool bb1, .slice aa1 ll1 cc1, .int .i64 ff1], .agg #[.bool b2, .slice a2 len2 cap2, .slice x2 nen2 nap2]] w (fun e w' => e = .returned (.bool true) ∧ Below w.heap.size w w') := by
  go_enter Try.func4, Try.ntmps4
  go_wp2_with fail
  have L := ((((Lq.mk0 w).varI (w.heap.size) (by simp) b0 a0 len0 cap0 f0 bb0 aa0 ll0 cc0 ff0).varI (w.heap.size + 1) (by simp) b1 a1 len1 cap1 f1 bb1 aa1 ll1 cc1 ff1).varQ (w.heap.size + 2) (by simp) b2 a2 x2 len2 cap2 nen2 nap2)
  (try go_wp2_with fail)
  refine (awake10_any _).mono ?_
  rintro e9 w1 ⟨rfl, be⟩
  replace L := L.step be
  clear be
  have c00 := L.b0.c30
  have c01 := L.b0.c31
  have c02 := L.b0.c32
  have c10 := L.tl.b0.c60
  have c11 := L.tl.b0.c61
  have c12 := L.tl.b0.c62
  have c13 := L.tl.b0.c63
  have c14 := L.tl.b0.c64
  have c15 := L.tl.b0.c65
  have c20 := L.tl.tl.b0.c60
  have c21 := L.tl.tl.b0.c61
  have c22 := L.tl.tl.b0.c62
  have c23 := L.tl.tl.b0.c63
  have c24 := L.tl.tl.b0.c64
  have c25 := L.tl.tl.b0.c65
  (try go_wp2_with fail)
  refine (two10_any b0 bb0 z0 zz0 a0 aa0 len0 cap0 ll0 cc0 f0 ff0 b1 bb1 z1 zz1 a1 aa1 len1 cap1 ll1 cc1 f1 ff1 _ (h0.1.mono L.below) (k0.1.mono L.below) h0.2 k0.2 (h1.1.mono L.below) (k1.1.mono L.below) h1.2 k1.2).mono ?_
  rintro e9 w2 ⟨vx, vy, ok, m, e, n, f, m2, e2, n2, f2, rfl, ix, iy, ⟨lm, he⟩, ⟨ln, hf⟩, ⟨lm2, he2⟩, ⟨ln2, hf2⟩, hv, le1, le2, be⟩
  clear c00 c01 c02 c10 c11 c12 c13 c14 c15 c20 c21 c22 c23 c24 c25
  obtain ⟨A, c, B, d, rfl, i1, i2⟩ := ix.form
  obtain ⟨A2, k2, B2, d2, rfl, i3, i4⟩ := iy.form
  replace L := ((((L.step be).n i4).n i3).n i2).n i1
  clear be ix iy i1 i2 i3 i4
  have hlt0 := L.b0.lt
  replace L := (L.varI w2.heap.size rfl (ng m) A (zl m) c e (ng n) B (zl n) d f).varI (w2.heap.size + 1) (by simp) (ng m2) A2 (zl m2) k2 e2 (ng n2) B2 (zl n2) d2 f2
  have c20 := L.tl.tl.b0.c30
  have c21 := L.tl.tl.b0.c31
  have c22 := L.tl.tl.b0.c32
  (try go_wp2_with fail)
  obtain ⟨g, hg⟩ : ∃ g, w2.heap.size = g := ⟨_, rfl⟩
  rw [hg] at L hlt0 ⊢
  clear hg
  refine (millRat_any b2 z2 y2 5 a2 x2 len2 cap2 nen2 nap2 _ (h2.1.mono L.below) (h2.2.mono L.below) (by omega)).mono ?_
  rintro e9 w3 ⟨vq, fine, a, q, rfl, iq, la, lq, hvq, be⟩
  clear c20 c21 c22
  replace L := (L.step be).q iq
  obtain ⟨C, u9, H, i9, rfl, _, _, _⟩ := iq.form
  clear be iq
  have hlt2 := L.b0.lt
  replace L := L.varQ w3.heap.size rfl (ng a) C H (zl a) u9 (len q) i9
  cases ok
  · go_wp2_with fail
    go_ret
    exact ⟨rfl, L.below⟩
  cases fine
  · go_wp2_with fail
    go_ret
    exact ⟨rfl, L.below⟩
  obtain ⟨v1, v2, v3, v4⟩ := hv (by first | trivial | rfl)
  have hd0 : 0 < q := by obtain ⟨q9, _, e1⟩ := hvq (by first | trivial | rfl); rw [e1]; exact den_pos' q9
  clear hv hvq
  have a1 := fun v u W h1 h2 => i10has_any m e n f a q v u W h1 h2 (by omega) (by omega) (by omega) (by omega) (by omega) (by omega)
  have a2 := fun v u W h1 h2 => r10has_any m e n f a q v u W h1 h2 (by omega) (by omega) (by omega) (by omega) (by omega) (by omega)
  have a3 := fun v u W h1 h2 => i10has_any m2 e2 n2 f2 a q v u W h1 h2 (by omega) (by omega) (by omega) (by omega) (by omega) (by omega)
  have w1 := fun v u W h1 h2 => i10within_any m e n f m2 e2 n2 f2 v u W h1 h2 (by omega) (by omega) (by omega) (by omega) (by omega) (by omega) (by omega) (by omega)
  have wr := fun v u W h1 h2 => r10within_any m e n f m2 e2 n2 f2 v u W h1 h2 (by omega) (by omega) (by omega) (by omega) (by omega) (by omega) (by omega) (by omega)
  have ws := fun v u W h1 h2 => i10within_any m e n f m e n f v u W h1 h2 (by omega) (by omega) (by omega) (by omega) (by omega) (by omega) (by omega) (by omega)
  rw [in_self] at ws
  have s1 := fun v u W h1 h2 => i10same_any m e n f m2 e2 n2 f2 v u W h1 h2 (by omega) (by omega) (by omega) (by omega) (by omega) (by omega) (by omega) (by omega) v1 v2 v3 v4
  have s2 := fun v u W h1 h2 => r10same_any m e n f m2 e2 n2 f2 v u W h1 h2 (by omega) (by omega) (by omega) (by omega) (by omega) (by omega) (by omega) (by omega)
  have hin := fun k1 k2 => in_has (m := m) (e := e) (n := n) (f := f) (m' := m2) (e' := e2) (n' := n2) (f' := f2) (a := a) (d := q) hd0 k1 k2
  obtain ⟨hb, hhb⟩ : ∃ b, hasB m e n f a q = b := ⟨_, rfl⟩
  obtain ⟨hc, hhc⟩ : ∃ b, hasB m2 e2 n2 f2 a q = b := ⟨_, rfl⟩
  obtain ⟨wb, hwb⟩ : ∃ b, inB m e n f m2 e2 n2 f2 = b := ⟨_, rfl⟩
  obtain ⟨sb, hsb⟩ : ∃ b, ((decide (e = e2) && decide (m = m2)) && (decide (f = f2) && decide (n = n2))) = b := ⟨_, rfl⟩
  rw [hhb] at a1 a2 hin
  rw [hhc] at a3 hin
  rw [hwb] at w1 wr hin
  rw [hsb] at s1 s2
  have HA1 := Lib.hid a1
  have HA2 := Lib.hid a2
  have HA3 := Lib.hid a3
  have W1 := Lib.hid w1
  have WR := Lib.hid wr
  have WS := Lib.hid ws
  have S1 := Lib.hid s1
  have S2 := Lib.hid s2
  have HIN := Lib.hid hin
  have q1 : (hb != hb) = false := by simp
  have q2 : (wb != wb) = false := by simp
  have q3 : (sb != sb) = false := by simp
  clear a1 a2 a3 w1 wr ws s1 s2 hin hhb hhc hwb hsb le1 le2 lm ln lm2 ln2 he hf he2 hf2 v1 v2 v3 v4 hd0 la lq
  have c00 := L.b0.c30
  have c01 := L.b0.c31
  have c02 := L.b0.c32
  have c10 := L.tl.b0.c60
  have c11 := L.tl.b0.c61
  have c12 := L.tl.b0.c62
  have c13 := L.tl.b0.c63
  have c14 := L.tl.b0.c64
  have c15 := L.tl.b0.c65
  have c20 := L.tl.tl.b0.c60
  have c21 := L.tl.tl.b0.c61
  have c22 := L.tl.tl.b0.c62
  have c23 := L.tl.tl.b0.c63
  have c24 := L.tl.tl.b0.c64
  have c25 := L.tl.tl.b0.c65
  go_wp2_with fail
  obtain ⟨g3, hg⟩ : ∃ g, w3.heap.size = g := ⟨_, rfl⟩
  rw [hg] at L hlt2 c00 c01 c02 ⊢
  clear hg
  replace L := L.drew
  clear c00 c01 c02 c10 c11 c12 c13 c14 c15 c20 c21 c22 c23 c24 c25
  have c00 := L.b0.c30
  have c01 := L.b0.c31
  have c02 := L.b0.c32
  have c10 := L.tl.b0.c60
  have c11 := L.tl.b0.c61
  have c12 := L.tl.b0.c62
  have c13 := L.tl.b0.c63
  have c14 := L.tl.b0.c64
  have c15 := L.tl.b0.c65
  have c20 := L.tl.tl.b0.c60
  have c21 := L.tl.tl.b0.c61
  have c22 := L.tl.tl.b0.c62
  have c23 := L.tl.tl.b0.c63
  have c24 := L.tl.tl.b0.c64
  have c25 := L.tl.tl.b0.c65
  go_region_held3 (fun w' => w'.cell? ⟨g, 0, none⟩ = some (.bool (ng m)) ∧ w'.cell? ⟨g, 1, none⟩ = some (.slice A (zl m) c) ∧ w'.cell? ⟨g, 2, none⟩ = some (.int .i64 e) ∧ w'.cell? ⟨g, 3, none⟩ = some (.bool (ng n)) ∧ w'.cell? ⟨g, 4, none⟩ = some (.slice B (zl n) d) ∧ w'.cell? ⟨g, 5, none⟩ = some (.int .i64 f) ∧ w'.cell? ⟨g + 1, 0, none⟩ = some (.bool (ng m2)) ∧ w'.cell? ⟨g + 1, 1, none⟩ = some (.slice A2 (zl m2) k2) ∧ w'.cell? ⟨g + 1, 2, none⟩ = some (.int .i64 e2) ∧ w'.cell? ⟨g + 1, 3, none⟩ = some (.bool (ng n2)) ∧ w'.cell? ⟨g + 1, 4, none⟩ = some (.slice B2 (zl n2) d2) ∧ w'.cell? ⟨g + 1, 5, none⟩ = some (.int .i64 f2) ∧ w'.cell? ⟨g3, 0, none⟩ = some (.bool (ng a)) ∧ w'.cell? ⟨g3, 1, none⟩ = some (.slice C (zl a) u9) ∧ w'.cell? ⟨g3, 2, none⟩ = some (.slice H (len q) i9)) (first | (with_reducible exact ⟨L.tl.tl.b0.c60, L.tl.tl.b0.c61, L.tl.tl.b0.c62, L.tl.tl.b0.c63, L.tl.tl.b0.c64, L.tl.tl.b0.c65, L.tl.b0.c60, L.tl.b0.c61, L.tl.b0.c62, L.tl.b0.c63, L.tl.b0.c64, L.tl.b0.c65, L.b0.c30, L.b0.c31, L.b0.c32⟩) | exact ⟨L.tl.tl.b0.c60, L.tl.tl.b0.c61, L.tl.tl.b0.c62, L.tl.tl.b0.c63, L.tl.tl.b0.c64, L.tl.tl.b0.c65, L.tl.b0.c60, L.tl.b0.c61, L.tl.b0.c62, L.tl.b0.c63, L.tl.b0.c64, L.tl.b0.c65, L.b0.c30, L.b0.c31, L.b0.c32⟩) (first | (go_at_call 18; (with_reducible refine (HA1.out _ _ _ ?_ ?_ ).mono ?_); (· (refine isI_n (L.getN ?_) (L.getN ?_) <;> (repeat (first | (with_reducible exact List.mem_cons_self) | apply List.mem_cons_of_mem)))); (· (refine L.getQ ?_; (repeat (first | (with_reducible exact List.mem_cons_self) | apply List.mem_cons_of_mem)))); rintro e wh ⟨rfl, be⟩; replace L := L.step be; clear be) | (go_at_call 19; (with_reducible refine (HA2.out _ _ _ ?_ ?_ ).mono ?_); (· (refine isI_n (L.getN ?_) (L.getN ?_) <;> (repeat (first | (with_reducible exact List.mem_cons_self) | apply List.mem_cons_of_mem)))); (· (refine L.getQ ?_; (repeat (first | (with_reducible exact List.mem_cons_self) | apply List.mem_cons_of_mem)))); rintro e wh ⟨rfl, be⟩; replace L := L.step be; clear be) | (go_at_call 20; (with_reducible refine (W1.out _ _ _ ?_ ?_ ).mono ?_); (· (refine isI_n (L.getN ?_) (L.getN ?_) <;> (repeat (first | (with_reducible exact List.mem_cons_self) | apply List.mem_cons_of_mem)))); (· (refine isI_n (L.getN ?_) (L.getN ?_) <;> (repeat (first | (with_reducible exact List.mem_cons_self) | apply List.mem_cons_of_mem)))); rintro e wh ⟨rfl, be⟩; replace L := L.step be; clear be) | (go_at_call 21; (with_reducible refine (WR.out _ _ _ ?_ ?_ ).mono ?_); (· (refine isI_n (L.getN ?_) (L.getN ?_) <;> (repeat (first | (with_reducible exact List.mem_cons_self) | apply List.mem_cons_of_mem)))); (· (refine isI_n (L.getN ?_) (L.getN ?_) <;> (repeat (first | (with_reducible exact List.mem_cons_self) | apply List.mem_cons_of_mem)))); rintro e wh ⟨rfl, be⟩; replace L := L.step be; clear be) | (go_at_call 20; (with_reducible refine (WS.out _ _ _ ?_ ?_ ).mono ?_); (· (refine isI_n (L.getN ?_) (L.getN ?_) <;> (repeat (first | (with_reducible exact List.mem_cons_self) | apply List.mem_cons_of_mem)))); (· (refine isI_n (L.getN ?_) (L.getN ?_) <;> (repeat (first | (with_reducible exact List.mem_cons_self) | apply List.mem_cons_of_mem)))); rintro e wh ⟨rfl, be⟩; replace L := L.step be; clear be) | (go_at_call 22; (with_reducible refine (S1.out _ _ _ ?_ ?_ ).mono ?_); (· (refine isI_n (L.getN ?_) (L.getN ?_) <;> (repeat (first | (with_reducible exact List.mem_cons_self) | apply List.mem_cons_of_mem)))); (· (refine isI_n (L.getN ?_) (L.getN ?_) <;> (repeat (first | (with_reducible exact List.mem_cons_self) | apply List.mem_cons_of_mem)))); rintro e wh ⟨rfl, be⟩; replace L := L.step be; clear be) | (go_at_call 14; (with_reducible refine (S2.out _ _ _ ?_ ?_ ).mono ?_); (· (refine isI_n (L.getN ?_) (L.getN ?_) <;> (repeat (first | (with_reducible exact List.mem_cons_self) | apply List.mem_cons_of_mem)))); (· (refine isI_n (L.getN ?_) (L.getN ?_) <;> (repeat (first | (with_reducible exact List.mem_cons_self) | apply List.mem_cons_of_mem)))); rintro e wh ⟨rfl, be⟩; replace L := L.step be; clear be))
  clear c00 c01 c02 c10 c11 c12 c13 c14 c15 c20 c21 c22 c23 c24 c25
  have c00 := L.b0.c30
  have c01 := L.b0.c31
  have c02 := L.b0.c32
  have c10 := L.tl.b0.c60
  have c11 := L.tl.b0.c61
  have c12 := L.tl.b0.c62
  have c13 := L.tl.b0.c63
  have c14 := L.tl.b0.c64
  have c15 := L.tl.b0.c65
  have c20 := L.tl.tl.b0.c60
  have c21 := L.tl.tl.b0.c61
  have c22 := L.tl.tl.b0.c62
  have c23 := L.tl.tl.b0.c63
  have c24 := L.tl.tl.b0.c64
  have c25 := L.tl.tl.b0.c65
  go_wp2_with fail
  refine (W1.out _ _ _ (isI_n (m := m) (e := e) (n := n) (f := f) (s := .slice A (zl m) c) (t := .slice B (zl n) d) (L.getN (by simp)) (L.getN (by simp))) (isI_n (m := m2) (e := e2) (n := n2) (f := f2) (s := .slice A2 (zl m2) k2) (t := .slice B2 (zl n2) d2) (L.getN (by simp)) (L.getN (by simp)))).mono ?_
  rintro e w51 ⟨rfl, be⟩
  clear c00 c01 c02 c10 c11 c12 c13 c14 c15 c20 c21 c22 c23 c24 c25
  replace L := L.step be
  clear be
  cases wb
  · skip
    go_wp2_with fail
    go_ret
    exact ⟨rfl, L.below⟩
  · skip
    have c00 := L.b0.c30
    have c01 := L.b0.c31
    have c02 := L.b0.c32
    have c10 := L.tl.b0.c60
    have c11 := L.tl.b0.c61
    have c12 := L.tl.b0.c62
    have c13 := L.tl.b0.c63
    have c14 := L.tl.b0.c64
    have c15 := L.tl.b0.c65
    have c20 := L.tl.tl.b0.c60
    have c21 := L.tl.tl.b0.c61
    have c22 := L.tl.tl.b0.c62
    have c23 := L.tl.tl.b0.c63
    have c24 := L.tl.tl.b0.c64
    have c25 := L.tl.tl.b0.c65
    go_wp2_with fail
    refine (HA1.out _ _ _ (isI_n (m := m) (e := e) (n := n) (f := f) (s := .slice A (zl m) c) (t := .slice B (zl n) d) (L.getN (by simp)) (L.getN (by simp))) (L.getQ (v := .agg #[.bool (ng a), .slice C (zl a) u9, .slice H (len q) i9]) (a := a) (d := q) (by simp))).mono ?_
    rintro e w52 ⟨rfl, be⟩
    clear c00 c01 c02 c10 c11 c12 c13 c14 c15 c20 c21 c22 c23 c24 c25
    replace L := L.step be
    clear be
    cases hb
    · skip
      go_wp2_with fail
      go_ret
      exact ⟨rfl, L.below⟩
    · have hh := HIN.out (by first | trivial | rfl) (by first | trivial | rfl)
      subst hh
      have c00 := L.b0.c30
      have c01 := L.b0.c31
      have c02 := L.b0.c32
      have c10 := L.tl.b0.c60
      have c11 := L.tl.b0.c61
      have c12 := L.tl.b0.c62
      have c13 := L.tl.b0.c63
      have c14 := L.tl.b0.c64
      have c15 := L.tl.b0.c65
      have c20 := L.tl.tl.b0.c60
      have c21 := L.tl.tl.b0.c61
      have c22 := L.tl.tl.b0.c62
      have c23 := L.tl.tl.b0.c63
      have c24 := L.tl.tl.b0.c64
      have c25 := L.tl.tl.b0.c65
      go_wp2_with fail
      refine (HA3.out _ _ _ (isI_n (m := m2) (e := e2) (n := n2) (f := f2) (s := .slice A2 (zl m2) k2) (t := .slice B2 (zl n2) d2) (L.getN (by simp)) (L.getN (by simp))) (L.getQ (v := .agg #[.bool (ng a), .slice C (zl a) u9, .slice H (len q) i9]) (a := a) (d := q) (by simp))).mono ?_
      rintro e w53 ⟨rfl, be⟩
      clear c00 c01 c02 c10 c11 c12 c13 c14 c15 c20 c21 c22 c23 c24 c25
      replace L := L.step be
      clear be
      go_wp2_with fail
      go_ret
      exact ⟨rfl, L.below⟩

end Go.Proofs.Ytgcmdlannbobgaa
