/- The walk of RationalRoots: whatever the input, the law returns true and turns nothing that was there. -/
import Derived.Test.YtbndgggjfjdfbaaGreatDoorAwake7
import Derived.Test.YtbndgggjfjdfbaaGreatDoorMillTwo
import Derived.Test.YtbndgggjfjdfbaaGreatDoorRatP2
import Derived.Test.YtbndgggjfjdfbaaGreatDoorRefRatD
import Derived.Deep.RegionHeld3
import Derived.Deep.DrawnRows
namespace Go.Proofs.YtbndgggjfjdfbaaGreatDoor
open Go.RowKit
set_option linter.unusedVariables false
set_option linter.unusedSimpArgs false
set_option maxRecDepth 100000
attribute [local go_sem ↓] Go.wp_at_zero Go.wp_at_succ

theorem Lq.pull3 {w0 w : World} {ns : List (Value × Nat)} {zs : List (Value × Int)} {qs : List (Value × Int × Nat)} {bs : List (Nat × TypeId × Array Value)} {p q r s : Nat × TypeId × Array Value} (h : Lq w0 w ns zs qs (p :: q :: r :: s :: bs)) : Lq w0 w ns zs qs (s :: p :: q :: r :: bs) :=
  ⟨h.below, h.ns, h.zs, h.qs, fun t ht => h.bs t (by simp only [List.mem_cons] at ht ⊢; rcases ht with h | h | h | h | h <;> simp [h])⟩
theorem sq_self (r : Nat) : sqB (r * r) = true ∧ sqQ (r * r) = r := by
  have e : rt 2 (r * r) = r := by
    refine rt_unique (by omega) ?_ ?_
    · rw [Nat.pow_two]; exact Nat.le_refl _
    · rw [Nat.pow_two]
      have : (r + 1) * (r + 1) = r * r + (2 * r + 1) := by rw [Nat.add_mul, Nat.mul_add]; omega
      omega
  unfold sqB sqQ
  rw [e]
  exact ⟨decide_eq_true rfl, if_pos rfl⟩
theorem sq_low {a : Int} {d : Nat} (h0 : 0 < d) (h : Nat.gcd a.natAbs d = 1) : (Rat.divInt (a * a) ((d : Int) * (d : Int))).num = a * a ∧ (Rat.divInt (a * a) ((d : Int) * (d : Int))).den = d * d := by
  rw [← Int.natCast_mul]
  obtain ⟨e1, e2⟩ := divInt_nat (a * a) (d * d) (Nat.mul_pos h0 h0)
  have hg : Nat.gcd (a * a).natAbs (d * d) = 1 := by
    rw [Int.natAbs_mul]
    have h1 : Nat.Coprime a.natAbs d := h
    exact (h1.mul_left h1).mul_right (h1.mul_left h1)
  rw [e1, e2, hg, Nat.div_one, Nat.div_one]
  exact ⟨sg_self _, rfl⟩

set_option maxHeartbeats 4000000 in
theorem walk_RationalRoots (b0 : Bool) (a0 : Option Addr) (len0 cap0 : Nat) (z0 : List Nat) (x0 : Option Addr) (nen0 nap0 : Nat) (y0 : List Nat) (w : World) (h0 : Sl w a0 len0 cap0 z0 ∧ Sl w x0 nen0 nap0 y0) (hT : Tab w) :
    Calls Tryz.prog 8 #[.agg #[.bool b0, .slice a0 len0 cap0, .slice x0 nen0 nap0]] w (fun e w' => e = .returned (.bool true) ∧ Below w.heap.size w w') := by
  go_enter Tryz.func8, Tryz.ntmps8
  go_wp2_with fail
  have L := ((Lq.mk0 w).varQ (w.heap.size) (by simp) b0 a0 x0 len0 cap0 nen0 nap0)
  refine (awake7_any _ (hT.mono L.below)).mono ?_
  rintro e w1 ⟨rfl, be⟩
  replace L := L.step be
  clear be
  have c00 := L.b0.c30
  have c01 := L.b0.c31
  have c02 := L.b0.c32
  go_wp2_with fail
  refine (millRat_any b0 z0 y0 5 a0 x0 len0 cap0 nen0 nap0 _ (h0.1.mono L.below) (h0.2.mono L.below) (by omega)).mono ?_
  rintro e w2 ⟨vx, ok, a, d, rfl, ix, la, ld, hv, be⟩
  clear c00 c01 c02
  replace L := (L.step be).q ix
  obtain ⟨A, c, B, i, rfl, _, _, _⟩ := ix.form
  clear be ix
  have hl0 := L.b0.lt
  replace L := L.varQ w2.heap.size rfl (ng a) A B (zl a) c (len d) i
  cases ok
  · go_wp2_with fail
    go_ret
    exact ⟨rfl, L.below⟩
  · have HV := Lib.hid (hv rfl)
    clear hv
    have hd0 : 0 < d := by obtain ⟨q, _, e1⟩ := HV.out; rw [e1]; exact den_pos' q
    have hgc : Nat.gcd a.natAbs d = 1 := by obtain ⟨q, e1, e2⟩ := HV.out; rw [e1, e2]; exact q.reduced
    go_wp2_with fail
    obtain ⟨g, hg⟩ : ∃ g, w2.heap.size = g := ⟨_, rfl⟩
    rw [hg] at L hl0 ⊢
    clear hg
    obtain ⟨s1, s2⟩ := sq_low hd0 hgc
    have p1 := fun v W (k1 : IsP W v a d) => pmul_any a d a d v v W k1 k1 (by omega) (by omega) (by omega) (by omega) hd0 hd0
    unfold RetQ at p1
    rw [s1, s2] at p1
    have P1 := Lib.hid p1
    obtain ⟨r1, r2⟩ := sq_self a.natAbs
    obtain ⟨r3, r4⟩ := sq_self d
    have l1 := zl_mul a a
    have l2 := len_mul d d
    have p2 := fun v W (k1 : IsP W v (a * a) (d * d)) => psqrt_yes (a * a) (d * d) v W k1 (by omega) (by omega) (by rcases Int.le_total 0 a with h | h; exact Int.mul_nonneg h h; exact Int.mul_nonneg_of_nonpos_of_nonpos h h) (by rw [Int.natAbs_mul]; exact r1) r3
    rw [Int.natAbs_mul, r2, r4] at p2
    have P2 := Lib.hid p2
    have P3 := Lib.hid (fun v W k1 => psqrt_any a d v W k1 (by omega) (by omega))
    have P4 := Lib.hid (fun v W k1 => rsqrt7_any a d v W k1 (by omega) (by omega))
    have P5 := Lib.hid (fun v W k1 => psign_any a d v W k1 (by omega))
    have P6 := Lib.hid (fun v W k1 => pneg_any a d v W k1 (by omega) (by omega))
    have HSM := Lib.hid (fun a d v u W k1 k2 => same7_yes a d v u W k1 k2)
    generalize (if sqP a d then (sqQ a.natAbs : Int) else 0) = pn at *
    generalize (if sqP a d then sqQ d else 0) = pd at *
    generalize sqP a d = o at *
    have HA := Lib.hid (show (0 ≤ a → (a.natAbs : Int) = a) ∧ (a < 0 → (a.natAbs : Int) = -a) from ⟨fun h => by omega, fun h => by omega⟩)
    obtain ⟨ab, hab⟩ : ∃ ab : Int, (a.natAbs : Int) = ab := ⟨_, rfl⟩
    rw [hab] at HA P2
    clear p1 p2 s1 s2 r1 r2 r3 r4 l1 l2 hgc hd0 HV la ld hT h0 hab
    generalize a * a = aa at *
    generalize d * d = dd' at *
    have c00 := L.b0.c30
    have c01 := L.b0.c31
    have c02 := L.b0.c32
    have c10 := L.tl.b0.c30
    have c11 := L.tl.b0.c31
    have c12 := L.tl.b0.c32
    go_wp2_with fail
    refine (P1.out _ _ (L.getQ (by simp))).mono ?_
    rintro e w3 ⟨v3, rfl, iq, be⟩
    clear c00 c01 c02 c10 c11 c12
    replace L := (L.step be).q iq
    clear be iq
    have c00 := L.b0.c30
    have c01 := L.b0.c31
    have c02 := L.b0.c32
    have c10 := L.tl.b0.c30
    have c11 := L.tl.b0.c31
    have c12 := L.tl.b0.c32
    go_wp2_with fail
    refine (P2.out _ _ (L.getQ (by simp))).mono ?_
    rintro e w4 ⟨v, rfl, iq, be⟩
    clear c00 c01 c02 c10 c11 c12
    replace L := (L.step be).q iq
    obtain ⟨A3, c3, B3, d3, rfl, _, _, _⟩ := iq.form
    clear be iq
    have hl3 := L.b0.lt
    replace L := L.varQ w4.heap.size rfl (ng ab) A3 B3 (zl ab) c3 (len d) d3
    have c00 := L.b0.c30
    have c01 := L.b0.c31
    have c02 := L.b0.c32
    have c10 := L.tl.b0.c30
    have c11 := L.tl.b0.c31
    have c12 := L.tl.b0.c32
    have c20 := L.tl.tl.b0.c30
    have c21 := L.tl.tl.b0.c31
    have c22 := L.tl.tl.b0.c32
    go_wp2_with fail
    clear c00 c01 c02 c10 c11 c12 c20 c21 c22
    obtain ⟨gr, hg⟩ : ∃ g, w4.heap.size = g := ⟨_, rfl⟩
    rw [hg] at L hl3 ⊢
    clear hg
    have c00 := L.b0.c30
    have c01 := L.b0.c31
    have c02 := L.b0.c32
    have c10 := L.tl.b0.c30
    have c11 := L.tl.b0.c31
    have c12 := L.tl.b0.c32
    have c20 := L.tl.tl.b0.c30
    have c21 := L.tl.tl.b0.c31
    have c22 := L.tl.tl.b0.c32
    go_wp2_with fail
    refine (P3.out _ _ (L.getQ (by simp))).mono ?_
    rintro e w5 ⟨v, rfl, iq, be⟩
    clear c00 c01 c02 c10 c11 c12 c20 c21 c22
    replace L := (L.step be).q iq
    obtain ⟨A4, c4, B4, d4, rfl, _, _, _⟩ := iq.form
    clear be iq
    have hl4 := L.b0.lt
    replace L := L.varQ w5.heap.size rfl (ng pn) A4 B4 (zl pn) c4 (len pd) d4
    have c00 := L.b0.c30
    have c01 := L.b0.c31
    have c02 := L.b0.c32
    have c10 := L.tl.b0.c30
    have c11 := L.tl.b0.c31
    have c12 := L.tl.b0.c32
    have c20 := L.tl.tl.b0.c30
    have c21 := L.tl.tl.b0.c31
    have c22 := L.tl.tl.b0.c32
    have c30 := L.tl.tl.tl.b0.c30
    have c31 := L.tl.tl.tl.b0.c31
    have c32 := L.tl.tl.tl.b0.c32
    go_wp2_with fail
    clear c00 c01 c02 c10 c11 c12 c20 c21 c22 c30 c31 c32
    obtain ⟨gs, hg⟩ : ∃ g, w5.heap.size = g := ⟨_, rfl⟩
    rw [hg] at L hl4 ⊢
    clear hg
    have c00 := L.b0.c30
    have c01 := L.b0.c31
    have c02 := L.b0.c32
    have c10 := L.tl.b0.c30
    have c11 := L.tl.b0.c31
    have c12 := L.tl.b0.c32
    have c20 := L.tl.tl.b0.c30
    have c21 := L.tl.tl.b0.c31
    have c22 := L.tl.tl.b0.c32
    have c30 := L.tl.tl.tl.b0.c30
    have c31 := L.tl.tl.tl.b0.c31
    have c32 := L.tl.tl.tl.b0.c32
    go_wp2_with fail
    refine (P4.out _ _ (L.getQ (by simp))).mono ?_
    rintro e w6 ⟨v, rfl, iq, be⟩
    clear c00 c01 c02 c10 c11 c12 c20 c21 c22 c30 c31 c32
    replace L := (L.step be).q iq
    obtain ⟨A5, c5, B5, d5, rfl, _, _, _⟩ := iq.form
    clear be iq
    have hl5 := L.b0.lt
    replace L := L.varQ w6.heap.size rfl (ng pn) A5 B5 (zl pn) c5 (len pd) d5
    have c00 := L.b0.c30
    have c01 := L.b0.c31
    have c02 := L.b0.c32
    have c10 := L.tl.b0.c30
    have c11 := L.tl.b0.c31
    have c12 := L.tl.b0.c32
    have c20 := L.tl.tl.b0.c30
    have c21 := L.tl.tl.b0.c31
    have c22 := L.tl.tl.b0.c32
    have c30 := L.tl.tl.tl.b0.c30
    have c31 := L.tl.tl.tl.b0.c31
    have c32 := L.tl.tl.tl.b0.c32
    have c40 := L.tl.tl.tl.tl.b0.c30
    have c41 := L.tl.tl.tl.tl.b0.c31
    have c42 := L.tl.tl.tl.tl.b0.c32
    go_wp2_with fail
    clear c00 c01 c02 c10 c11 c12 c20 c21 c22 c30 c31 c32 c40 c41 c42
    obtain ⟨gw, hg⟩ : ∃ g, w6.heap.size = g := ⟨_, rfl⟩
    rw [hg] at L hl5 ⊢
    clear hg
    have c00 := L.b0.c30
    have c01 := L.b0.c31
    have c02 := L.b0.c32
    have c10 := L.tl.b0.c30
    have c11 := L.tl.b0.c31
    have c12 := L.tl.b0.c32
    have c20 := L.tl.tl.b0.c30
    have c21 := L.tl.tl.b0.c31
    have c22 := L.tl.tl.b0.c32
    have c30 := L.tl.tl.tl.b0.c30
    have c31 := L.tl.tl.tl.b0.c31
    have c32 := L.tl.tl.tl.b0.c32
    have c40 := L.tl.tl.tl.tl.b0.c30
    have c41 := L.tl.tl.tl.tl.b0.c31
    have c42 := L.tl.tl.tl.tl.b0.c32
    go_wp2_with fail
    refine (P5.out _ _ (L.getQ (by simp))).mono ?_
    rintro e w7 ⟨rfl, be⟩
    clear c00 c01 c02 c10 c11 c12 c20 c21 c22 c30 c31 c32 c40 c41 c42
    replace L := L.step be
    clear be
    have c00 := L.b0.c30
    have c01 := L.b0.c31
    have c02 := L.b0.c32
    have c10 := L.tl.b0.c30
    have c11 := L.tl.b0.c31
    have c12 := L.tl.b0.c32
    have c20 := L.tl.tl.b0.c30
    have c21 := L.tl.tl.b0.c31
    have c22 := L.tl.tl.b0.c32
    have c30 := L.tl.tl.tl.b0.c30
    have c31 := L.tl.tl.tl.b0.c31
    have c32 := L.tl.tl.tl.b0.c32
    have c40 := L.tl.tl.tl.tl.b0.c30
    have c41 := L.tl.tl.tl.tl.b0.c31
    have c42 := L.tl.tl.tl.tl.b0.c32
    have hoo : (o == o) = true := by cases o <;> rfl
    by_cases hneg : a < 0
    · have hK : decide (cmpI a 0 < 0) = true := by rw [cmpI_lt hneg]; rfl
      have hna := HA.out.2 hneg
      subst hna
      clear hneg HA
      generalize cmpI a 0 = K at *
      go_wp2_with fail
      refine (P6.out _ _ (L.getQ (by simp))).mono ?_
      rintro e w8 ⟨v9, rfl, iq, be⟩
      clear c00 c01 c02 c10 c11 c12 c20 c21 c22 c30 c31 c32 c40 c41 c42
      replace L := (L.step be).q iq
      obtain ⟨A9, c9, B9, d9, rfl, _, _, _⟩ := iq.form
      clear be iq
      replace L := L.pull3
      have c00 := L.b0.c30
      have f00 := L.b0.fr 0
      have c01 := L.b0.c31
      have f01 := L.b0.fr 1
      have c02 := L.b0.c32
      have f02 := L.b0.fr 2
      have c10 := L.tl.b0.c30
      have c11 := L.tl.b0.c31
      have c12 := L.tl.b0.c32
      have c20 := L.tl.tl.b0.c30
      have c21 := L.tl.tl.b0.c31
      have c22 := L.tl.tl.b0.c32
      have c30 := L.tl.tl.tl.b0.c30
      have c31 := L.tl.tl.tl.b0.c31
      have c32 := L.tl.tl.tl.b0.c32
      have c40 := L.tl.tl.tl.tl.b0.c30
      have c41 := L.tl.tl.tl.tl.b0.c31
      have c42 := L.tl.tl.tl.tl.b0.c32
      go_wp2_with fail
      replace L := L.putQ (by omega) (by first | (simp; done) | (simp; omega)) (ng (-a)) A9 B9 (zl (-a)) c9 (len d) d9
      clear c00 f00 c01 f01 c02 f02 c10 c11 c12 c20 c21 c22 c30 c31 c32 c40 c41 c42
      unfold put3 at L
      have c00 := L.b0.c30
      have c01 := L.b0.c31
      have c02 := L.b0.c32
      have c10 := L.tl.b0.c30
      have c11 := L.tl.b0.c31
      have c12 := L.tl.b0.c32
      have c20 := L.tl.tl.b0.c30
      have c21 := L.tl.tl.b0.c31
      have c22 := L.tl.tl.b0.c32
      have c30 := L.tl.tl.tl.b0.c30
      have c31 := L.tl.tl.tl.b0.c31
      have c32 := L.tl.tl.tl.b0.c32
      have c40 := L.tl.tl.tl.tl.b0.c30
      have c41 := L.tl.tl.tl.tl.b0.c31
      have c42 := L.tl.tl.tl.tl.b0.c32
      go_wp2_with fail
      refine (HSM.out (-a) d _ _ _ (L.getQ (by simp)) (L.getQ (by simp))).mono ?_
      rintro e w9 ⟨rfl, be⟩
      clear c00 c01 c02 c10 c11 c12 c20 c21 c22 c30 c31 c32 c40 c41 c42
      replace L := L.step be
      clear be
      have c00 := L.b0.c30
      have c01 := L.b0.c31
      have c02 := L.b0.c32
      have c10 := L.tl.b0.c30
      have c11 := L.tl.b0.c31
      have c12 := L.tl.b0.c32
      have c20 := L.tl.tl.b0.c30
      have c21 := L.tl.tl.b0.c31
      have c22 := L.tl.tl.b0.c32
      have c30 := L.tl.tl.tl.b0.c30
      have c31 := L.tl.tl.tl.b0.c31
      have c32 := L.tl.tl.tl.b0.c32
      have c40 := L.tl.tl.tl.tl.b0.c30
      have c41 := L.tl.tl.tl.tl.b0.c31
      have c42 := L.tl.tl.tl.tl.b0.c32
      go_wp2_with fail
      refine (HSM.out pn pd _ _ _ (L.getQ (by simp)) (L.getQ (by simp))).mono ?_
      rintro e w10 ⟨rfl, be⟩
      clear c00 c01 c02 c10 c11 c12 c20 c21 c22 c30 c31 c32 c40 c41 c42
      replace L := L.step be
      clear be
      go_wp2_with fail
      go_ret
      exact ⟨rfl, L.below⟩
    · have hK : decide (cmpI a 0 < 0) = false := cmpI_nn (by omega)
      have hna := HA.out.1 (by omega)
      subst hna
      clear hneg HA
      generalize cmpI ab 0 = K at *
      go_wp2_with fail
      refine (HSM.out ab d _ _ _ (L.getQ (by simp)) (L.getQ (by simp))).mono ?_
      rintro e w8 ⟨rfl, be⟩
      clear c00 c01 c02 c10 c11 c12 c20 c21 c22 c30 c31 c32 c40 c41 c42
      replace L := L.step be
      clear be
      have c00 := L.b0.c30
      have c01 := L.b0.c31
      have c02 := L.b0.c32
      have c10 := L.tl.b0.c30
      have c11 := L.tl.b0.c31
      have c12 := L.tl.b0.c32
      have c20 := L.tl.tl.b0.c30
      have c21 := L.tl.tl.b0.c31
      have c22 := L.tl.tl.b0.c32
      have c30 := L.tl.tl.tl.b0.c30
      have c31 := L.tl.tl.tl.b0.c31
      have c32 := L.tl.tl.tl.b0.c32
      have c40 := L.tl.tl.tl.tl.b0.c30
      have c41 := L.tl.tl.tl.tl.b0.c31
      have c42 := L.tl.tl.tl.tl.b0.c32
      go_wp2_with fail
      refine (HSM.out pn pd _ _ _ (L.getQ (by simp)) (L.getQ (by simp))).mono ?_
      rintro e w9 ⟨rfl, be⟩
      clear c00 c01 c02 c10 c11 c12 c20 c21 c22 c30 c31 c32 c40 c41 c42
      replace L := L.step be
      clear be
      go_wp2_with fail
      go_ret
      exact ⟨rfl, L.below⟩

end Go.Proofs.YtbndgggjfjdfbaaGreatDoor
