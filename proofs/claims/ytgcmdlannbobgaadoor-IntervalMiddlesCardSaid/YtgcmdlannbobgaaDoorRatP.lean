/- The program's fractions: lowest, times, Make, Of, Sign, Neg, Mul, Cmp, Div. -/
import Derived.Test.YtgcmdlannbobgaaDoorBaseD
import Derived.Test.YtgcmdlannbobgaaDoorBaseS
import Derived.Test.YtgcmdlannbobgaaDoorBaseI
import Derived.Test.YtgcmdlannbobgaaDoorBaseN
import Derived.Deep.RegionHeld3
import Derived.Deep.DrawnRows
namespace Go.Proofs.YtgcmdlannbobgaaDoor
open Go.RowKit
set_option linter.unusedVariables false
set_option linter.unusedSimpArgs false
set_option maxRecDepth 100000
attribute [local go_sem ↓] Go.wp_at_zero Go.wp_at_succ

theorem trimP_any (x : Nat) (v : Value) (w : World) (h : IsN w v x) (hx : len x ≤ 1000000) : Calls Tryd.prog 107 #[v] w (RetN w x) := by
  obtain ⟨A, n, c, rfl, hs⟩ := h
  have hl := hs.len
  rw [length_dig] at hl
  have := trim_any _ A n c w hs (by omega)
  rwa [trim_dig] at this
theorem Lq.swap3 {w0 w : World} {ns : List (Value × Nat)} {zs : List (Value × Int)} {qs : List (Value × Int × Nat)} {bs : List (Nat × TypeId × Array Value)} {p q r : Nat × TypeId × Array Value} (h : Lq w0 w ns zs qs (p :: q :: r :: bs)) : Lq w0 w ns zs qs (q :: r :: p :: bs) :=
  ⟨h.below, h.ns, h.zs, h.qs, fun t ht => h.bs t (by simp only [List.mem_cons] at ht ⊢; rcases ht with h | h | h | h <;> simp [h])⟩
theorem isZ_nat {w : World} {s : Value} {d : Nat} (h : IsN w s d) : IsZ w (.agg #[.bool false, s]) (d : Int) := ⟨s, by rw [ng_nat], by rw [Int.natAbs_natCast]; exact h⟩
theorem divInt_nat (n : Int) (m : Nat) (h : 0 < m) : (Rat.divInt n (m : Int)).num = sg (ng n) (n.natAbs / Nat.gcd n.natAbs m) ∧ (Rat.divInt n (m : Int)).den = m / Nat.gcd n.natAbs m := by
  obtain ⟨e1, e2⟩ := divInt_pair n (m : Int) (by omega)
  rw [e1, e2, ng_nat, Int.natAbs_natCast]
  refine ⟨?_, rfl⟩
  cases ng n <;> rfl
theorem divInt_neg (n m : Int) : Rat.divInt (-n) (-m) = Rat.divInt n m := Rat.neg_divInt_neg n m

set_option maxHeartbeats 1000000 in
theorem ptimes_any (a : Int) (d : Nat) (vx va : Value) (w : World) (hx : IsZ w vx a) (hd : IsN w va d) (la : zl a ≤ 100000000) (ld : len d ≤ 100000000) :
    Calls Tryd.prog 68 #[vx, va] w (RetZ w (a * (d : Int))) := by
  obtain ⟨A, c, rfl, _⟩ := hx.form
  obtain ⟨B, g, rfl⟩ := hd.form
  have hz := isZ_nat hd
  have ld' : zl (d : Int) ≤ 100000000 := ld
  have HM := Lib.hid (fun v u W h1 h2 => zmul_any a (d : Int) v u W h1 h2 (by omega) (by omega))
  have L0 := ((Lq.mk0 w).z hx).z hz
  generalize a * (d : Int) = p at *
  clear hx hd hz la ld ld'
  go_enter Tryd.func68, Tryd.ntmps68
  go_wp2_with fail
  have L := ((L0.varZ (w.heap.size) (by simp) (ng a) A (zl a) c).varZ (w.heap.size + 1) (by simp) false none 0 0)
  have c00 := L.b0.c20
  have f00 := L.b0.fr 0
  have c01 := L.b0.c21
  have f01 := L.b0.fr 1
  have c10 := L.tl.b0.c20
  have c11 := L.tl.b0.c21
  refine (HM.out _ _ _ (L.getZ (by simp)) (L.getZ (by simp))).mono ?_
  rintro e w1 ⟨v1, rfl, iz, be⟩
  clear c00 f00 c01 f01 c10 c11
  replace L := (L.step be).z iz
  obtain ⟨A3, c3, rfl, _⟩ := iz.form
  clear be iz
  have c00 := L.b0.c20
  have f00 := L.b0.fr 0
  have c01 := L.b0.c21
  have f01 := L.b0.fr 1
  have c10 := L.tl.b0.c20
  have c11 := L.tl.b0.c21
  go_wp2_with fail
  have LP := L.putZ (by omega) (by first | (simp; done) | (simp; omega)) (ng (p)) A3 (zl (p)) c3
  have k0 := LP.b0.c20
  have k1 := LP.b0.c21
  unfold put2 at k0 k1
  exact bodyPost_ret (v := .agg #[.bool (ng (p)), .slice A3 (zl (p)) c3]) (by simp [results, Tryd.results68, go_sem, k0, k1]) rfl ⟨_, rfl, LP.hz, LP.below⟩
set_option maxHeartbeats 4000000 in
theorem pcmp_any (a : Int) (d : Nat) (b : Int) (e : Nat) (vx vy : Value) (w : World) (hx : IsP w vx a d) (hy : IsP w vy b e) (la : zl a ≤ 1000000) (ld : len d ≤ 1000000) (lb : zl b ≤ 1000000) (le : len e ≤ 1000000) :
    Calls Tryd.prog 39 #[vx, vy] w (RetI w (cmpI (a * (e : Int)) (b * (d : Int)))) := by
  obtain ⟨A, c, B, g, rfl, hza, _, hnd⟩ := hx.form
  obtain ⟨C, i, D, k, rfl, hzb, _, hne⟩ := hy.form
  have L0 := ((((((Lq.mk0 w).q hx).q hy).z hza).z hzb).n hnd).n hne
  clear hx hy hza hzb hnd hne
  have ld' : zl (d : Int) ≤ 1000000 := ld
  have le' : zl (e : Int) ≤ 1000000 := le
  have l1 := zl_mul a (e : Int)
  have l2 := zl_mul b (d : Int)
  have H1 := Lib.hid (fun v u W h1 h2 => ptimes_any a e v u W h1 h2 (by omega) (by omega))
  have H2 := Lib.hid (fun v u W h1 h2 => ptimes_any b d v u W h1 h2 (by omega) (by omega))
  have H3 := Lib.hid (fun v u W h1 h2 => zcmp_any (a * (e : Int)) (b * (d : Int)) v u W h1 h2 (by omega) (by omega))
  generalize cmpI (a * (e : Int)) (b * (d : Int)) = r at *
  clear l1 l2 ld' le' la ld lb le
  generalize a * (e : Int) = p1 at *
  generalize b * (d : Int) = p2 at *
  go_enter Tryd.func39, Tryd.ntmps39
  go_wp2_with fail
  have L := ((L0.varQ (w.heap.size) (by simp) (ng a) A B (zl a) c (len d) g).varQ (w.heap.size + 1) (by simp) (ng b) C D (zl b) i (len e) k)
  replace L := L.drew
  have c00 := L.b0.c30
  have f00 := L.b0.fr 0
  have c01 := L.b0.c31
  have f01 := L.b0.fr 1
  have c02 := L.b0.c32
  have f02 := L.b0.fr 2
  have c10 := L.tl.b0.c30
  have c11 := L.tl.b0.c31
  have c12 := L.tl.b0.c32
  go_region_held3 (fun w' => w'.cell? ⟨w.heap.size, 0, none⟩ = some (.bool (ng a)) ∧ w'.cell? ⟨w.heap.size, 1, none⟩ = some (.slice A (zl a) c) ∧ w'.cell? ⟨w.heap.size, 2, none⟩ = some (.slice B (len d) g) ∧ w'.cell? ⟨w.heap.size + 1, 0, none⟩ = some (.bool (ng b)) ∧ w'.cell? ⟨w.heap.size + 1, 1, none⟩ = some (.slice C (zl b) i) ∧ w'.cell? ⟨w.heap.size + 1, 2, none⟩ = some (.slice D (len e) k)) (first | (with_reducible exact ⟨L.tl.b0.c30, L.tl.b0.c31, L.tl.b0.c32, L.b0.c30, L.b0.c31, L.b0.c32⟩) | exact ⟨L.tl.b0.c30, L.tl.b0.c31, L.tl.b0.c32, L.b0.c30, L.b0.c31, L.b0.c32⟩) (first | (go_at_call 68; (with_reducible refine (H1.out _ _ _ ?_ ?_ ).mono ?_); (· (refine L.getZ ?_; (repeat (first | (with_reducible exact List.mem_cons_self) | apply List.mem_cons_of_mem)))); (· (refine L.getN ?_; (repeat (first | (with_reducible exact List.mem_cons_self) | apply List.mem_cons_of_mem)))); rintro e wh ⟨vh, rfl, iz, be⟩; replace L := (L.step be).z iz; clear be iz) | (go_at_call 68; (with_reducible refine (H2.out _ _ _ ?_ ?_ ).mono ?_); (· (refine L.getZ ?_; (repeat (first | (with_reducible exact List.mem_cons_self) | apply List.mem_cons_of_mem)))); (· (refine L.getN ?_; (repeat (first | (with_reducible exact List.mem_cons_self) | apply List.mem_cons_of_mem)))); rintro e wh ⟨vh, rfl, iz, be⟩; replace L := (L.step be).z iz; clear be iz) | (go_at_call 67; (with_reducible refine (H3.out _ _ _ ?_ ?_ ).mono ?_); (· (refine L.getZ ?_; (repeat (first | (with_reducible exact List.mem_cons_self) | apply List.mem_cons_of_mem)))); (· (refine L.getZ ?_; (repeat (first | (with_reducible exact List.mem_cons_self) | apply List.mem_cons_of_mem)))); rintro e wh ⟨rfl, be⟩; replace L := L.step be; clear be))
  clear c00 f00 c01 f01 c02 f02 c10 c11 c12
  go_wp2_with fail
  go_ret
  exact ⟨rfl, L.below⟩
end Go.Proofs.YtgcmdlannbobgaaDoor
