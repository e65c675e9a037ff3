/- The laws' known: enclosures of the three constants. -/
import Derived.Test.YtfnklkdbieikeaaGreatDoorCoT
import Derived.Test.YtfnklkdbieikeaaGreatDoorRefCoJ
import Derived.Test.YtfnklkdbieikeaaGreatDoorRefCoI
import Derived.Test.YtfnklkdbieikeaaGreatDoorRefCoG
import Derived.Test.YtfnklkdbieikeaaGreatDoorRefCoH
import Derived.Deep.RegionHeld3
import Derived.Deep.DrawnRows
import Derived.Deep.WholeRow
namespace Go.Proofs.YtfnklkdbieikeaaGreatDoor
open Go.RowKit
set_option linter.unusedVariables false
set_option linter.unusedSimpArgs false
set_option maxRecDepth 100000
attribute [local go_sem ↓] Go.wp_at_zero Go.wp_at_succ

/-- The one result out of its variable; the two results. -/
theorem results_one {fn : Func} {p : Tmp} {ty : TypeId} (h : fn.results = #[.cell p ty]) (tmps : Array Value) (P : Program) (w : World) :
    (results fn tmps).run P w = ((asAddr (tmps.getD p undef)).run P w).andThen fun a w1 => (loadVar ty a).run P w1 := by
  simp only [results, h]
  simp [Sem.run_bind, Result.andThen]
theorem results_two {fn : Func} {p q : Tmp} {ty tu : TypeId} (h : fn.results = #[.cell p ty, .cell q tu]) (tmps : Array Value) (P : Program) (w : World) :
    (results fn tmps).run P w = ((asAddr (tmps.getD p undef)).run P w).andThen fun a w1 => ((loadVar ty a).run P w1).andThen fun v w2 => ((asAddr (tmps.getD q undef)).run P w2).andThen fun b w3 => ((loadVar tu b).run P w3).andThen fun u w4 => .ok (.tuple #[v, u]) w4 := by
  simp only [results, h]
  simp [Sem.run_bind, Result.andThen]
/-- The ends of the known enclosures, as Make returns them. -/
def loM (x : Int) (k : Nat) : Int := mkM (x / 2 ^ 20) (-((k + 20 : Nat) : Int))
def loE (x : Int) (k : Nat) : Int := mkE (x / 2 ^ 20) (-((k + 20 : Nat) : Int))
def hiM (x : Int) (k : Nat) : Int := mkM (cdv x (2 ^ 20)) (-((k + 20 : Nat) : Int))
def hiE (x : Int) (k : Nat) : Int := mkE (cdv x (2 ^ 20)) (-((k + 20 : Nat) : Int))

set_option maxHeartbeats 8000000 in
theorem known13_any (k : Nat) (w : World) (hk : k ≤ 5000) :
    Calls Tryz.prog 11 #[.int .i64 (k : Int)] w (RetT w (loM (piL (k + 40)) k) (loE (piL (k + 40)) k) (hiM (piH (k + 40)) k) (hiE (piH (k + 40)) k) (loM (exL (k + 40)) k) (loE (exL (k + 40)) k) (hiM (exH (k + 40)) k) (hiE (exH (k + 40)) k) (loM (lnL (k + 40)) k) (loE (lnL (k + 40)) k) (hiM (lnH (k + 40)) k) (hiE (lnH (k + 40)) k)) := by
  obtain ⟨x1, y1⟩ := pi_size (v := k + 40) (by omega)
  have g1 := fun W => s13pi_any (k + 40) W (by omega)
  have o1 := fun x W h => s13out_any (piL (k + 40)) (piH (k + 40)) (k + 40) (k + 20) 20 x W h (by omega) (by omega) (by omega) (by omega) (by omega)
  obtain ⟨x2, y2⟩ := ex_size (v := k + 40) (by omega)
  have g2 := fun W => s13e_any (k + 40) W (by omega)
  have o2 := fun x W h => s13out_any (exL (k + 40)) (exH (k + 40)) (k + 40) (k + 20) 20 x W h (by omega) (by omega) (by omega) (by omega) (by omega)
  obtain ⟨x3, y3⟩ := ln_size (v := k + 40) (by omega)
  have g3 := fun W => s13ln_any (k + 40) W (by omega)
  have o3 := fun x W h => s13out_any (lnL (k + 40)) (lnH (k + 40)) (k + 40) (k + 20) 20 x W h (by omega) (by omega) (by omega) (by omega) (by omega)
  obtain ⟨v, hv⟩ : ∃ v, k + 40 = v := ⟨_, rfl⟩
  obtain ⟨u, hu⟩ : ∃ u, k + 20 = u := ⟨_, rfl⟩
  have w1 : IntKind.i64.wrap ((k : Int) + 40) = (v : Int) := by rw [IntKind.wrap_i64]; omega
  have w2 : IntKind.i64.wrap ((k : Int) + 20) = (u : Int) := by rw [IntKind.wrap_i64]; omega
  unfold loM loE hiM hiE
  rw [hv, hu]
  rw [hv] at g1 o1
  rw [hu] at o1
  rw [hv] at g2 o2
  rw [hu] at o2
  rw [hv] at g3 o3
  rw [hu] at o3
  obtain ⟨a1, ha1⟩ : ∃ z, piL v = z := ⟨_, rfl⟩
  obtain ⟨b1, hb1⟩ : ∃ z, piH v = z := ⟨_, rfl⟩
  rw [ha1, hb1] at g1 o1
  rw [ha1, hb1]
  obtain ⟨m1, hm1⟩ : ∃ z, mkM (a1 / 2 ^ 20) (-(u : Int)) = z := ⟨_, rfl⟩
  rw [hm1] at o1 ⊢
  clear hm1
  obtain ⟨e1, he1⟩ : ∃ z, mkE (a1 / 2 ^ 20) (-(u : Int)) = z := ⟨_, rfl⟩
  rw [he1] at o1 ⊢
  clear he1
  obtain ⟨n1, hn1⟩ : ∃ z, mkM (cdv b1 (2 ^ 20)) (-(u : Int)) = z := ⟨_, rfl⟩
  rw [hn1] at o1 ⊢
  clear hn1
  obtain ⟨f1, hf1⟩ : ∃ z, mkE (cdv b1 (2 ^ 20)) (-(u : Int)) = z := ⟨_, rfl⟩
  rw [hf1] at o1 ⊢
  clear hf1
  have G1 := Lib.hid g1
  have O1 := Lib.hid o1
  clear g1 o1 ha1 hb1 x1 y1
  obtain ⟨a2, ha2⟩ : ∃ z, exL v = z := ⟨_, rfl⟩
  obtain ⟨b2, hb2⟩ : ∃ z, exH v = z := ⟨_, rfl⟩
  rw [ha2, hb2] at g2 o2
  rw [ha2, hb2]
  obtain ⟨m2, hm2⟩ : ∃ z, mkM (a2 / 2 ^ 20) (-(u : Int)) = z := ⟨_, rfl⟩
  rw [hm2] at o2 ⊢
  clear hm2
  obtain ⟨e2, he2⟩ : ∃ z, mkE (a2 / 2 ^ 20) (-(u : Int)) = z := ⟨_, rfl⟩
  rw [he2] at o2 ⊢
  clear he2
  obtain ⟨n2, hn2⟩ : ∃ z, mkM (cdv b2 (2 ^ 20)) (-(u : Int)) = z := ⟨_, rfl⟩
  rw [hn2] at o2 ⊢
  clear hn2
  obtain ⟨f2, hf2⟩ : ∃ z, mkE (cdv b2 (2 ^ 20)) (-(u : Int)) = z := ⟨_, rfl⟩
  rw [hf2] at o2 ⊢
  clear hf2
  have G2 := Lib.hid g2
  have O2 := Lib.hid o2
  clear g2 o2 ha2 hb2 x2 y2
  obtain ⟨a3, ha3⟩ : ∃ z, lnL v = z := ⟨_, rfl⟩
  obtain ⟨b3, hb3⟩ : ∃ z, lnH v = z := ⟨_, rfl⟩
  rw [ha3, hb3] at g3 o3
  rw [ha3, hb3]
  obtain ⟨m3, hm3⟩ : ∃ z, mkM (a3 / 2 ^ 20) (-(u : Int)) = z := ⟨_, rfl⟩
  rw [hm3] at o3 ⊢
  clear hm3
  obtain ⟨e3, he3⟩ : ∃ z, mkE (a3 / 2 ^ 20) (-(u : Int)) = z := ⟨_, rfl⟩
  rw [he3] at o3 ⊢
  clear he3
  obtain ⟨n3, hn3⟩ : ∃ z, mkM (cdv b3 (2 ^ 20)) (-(u : Int)) = z := ⟨_, rfl⟩
  rw [hn3] at o3 ⊢
  clear hn3
  obtain ⟨f3, hf3⟩ : ∃ z, mkE (cdv b3 (2 ^ 20)) (-(u : Int)) = z := ⟨_, rfl⟩
  rw [hf3] at o3 ⊢
  clear hf3
  have G3 := Lib.hid g3
  have O3 := Lib.hid o3
  clear g3 o3 ha3 hb3 x3 y3
  clear hv hu
  go_enter Tryz.func11, Tryz.ntmps11
  (try go_wp2_with fail)
  have L := (Lq.mk0 w).varT w.heap.size rfl false none 0 0 0 false none 0 0 0 false none 0 0 0 false none 0 0 0 false none 0 0 0 false none 0 0 0
  refine (G1.out _).mono ?_
  rintro e w1 ⟨vv, rfl, iq, be⟩
  obtain ⟨A1, c1, B1, d1, rfl, ia, ib⟩ := iq.form
  replace L := ((L.step be).n ib).n ia
  clear be iq ia ib
  (try go_wp2_with fail)
  refine (O1.out _ _ (isS_n (a := a1) (b := b1) (s := .slice A1 (zl a1) c1) (t := .slice B1 (zl b1) d1) (L.getN (by simp)) (L.getN (by simp)))).mono ?_
  rintro e w2 ⟨vv, rfl, ii, be⟩
  obtain ⟨C1, p1, D1, q1, rfl, ia, ib⟩ := ii.form
  replace L := ((L.step be).n ib).n ia
  clear be ii ia ib
  (try go_wp2_with fail)
  refine (G2.out _).mono ?_
  rintro e w3 ⟨vv, rfl, iq, be⟩
  obtain ⟨A2, c2, B2, d2, rfl, ia, ib⟩ := iq.form
  replace L := ((L.step be).n ib).n ia
  clear be iq ia ib
  (try go_wp2_with fail)
  refine (O2.out _ _ (isS_n (a := a2) (b := b2) (s := .slice A2 (zl a2) c2) (t := .slice B2 (zl b2) d2) (L.getN (by simp)) (L.getN (by simp)))).mono ?_
  rintro e w4 ⟨vv, rfl, ii, be⟩
  obtain ⟨C2, p2, D2, q2, rfl, ia, ib⟩ := ii.form
  replace L := ((L.step be).n ib).n ia
  clear be ii ia ib
  (try go_wp2_with fail)
  refine (G3.out _).mono ?_
  rintro e w5 ⟨vv, rfl, iq, be⟩
  obtain ⟨A3, c3, B3, d3, rfl, ia, ib⟩ := iq.form
  replace L := ((L.step be).n ib).n ia
  clear be iq ia ib
  (try go_wp2_with fail)
  refine (O3.out _ _ (isS_n (a := a3) (b := b3) (s := .slice A3 (zl a3) c3) (t := .slice B3 (zl b3) d3) (L.getN (by simp)) (L.getN (by simp)))).mono ?_
  rintro e w6 ⟨vv, rfl, ii, be⟩
  obtain ⟨C3, p3, D3, q3, rfl, ia, ib⟩ := ii.form
  replace L := ((L.step be).n ib).n ia
  clear be ii ia ib
  have c0' := L.b0.cT0
  have r0' := L.b0.fr 0
  have c1' := L.b0.cT1
  have r1' := L.b0.fr 1
  have c2' := L.b0.cT2
  have r2' := L.b0.fr 2
  have c3' := L.b0.cT3
  have r3' := L.b0.fr 3
  have c4' := L.b0.cT4
  have r4' := L.b0.fr 4
  have c5' := L.b0.cT5
  have r5' := L.b0.fr 5
  have c6' := L.b0.cT6
  have r6' := L.b0.fr 6
  have c7' := L.b0.cT7
  have r7' := L.b0.fr 7
  have c8' := L.b0.cT8
  have r8' := L.b0.fr 8
  have c9' := L.b0.cT9
  have r9' := L.b0.fr 9
  have c10' := L.b0.cT10
  have r10' := L.b0.fr 10
  have c11' := L.b0.cT11
  have r11' := L.b0.fr 11
  have c12' := L.b0.cT12
  have r12' := L.b0.fr 12
  have c13' := L.b0.cT13
  have r13' := L.b0.fr 13
  have c14' := L.b0.cT14
  have r14' := L.b0.fr 14
  have c15' := L.b0.cT15
  have r15' := L.b0.fr 15
  have c16' := L.b0.cT16
  have r16' := L.b0.fr 16
  have c17' := L.b0.cT17
  have r17' := L.b0.fr 17
  (try go_wp2_with fail)
  have LP := L.putT (by omega) (by simp) (ng m1) C1 (zl m1) p1 e1 (ng n1) D1 (zl n1) q1 f1 (ng m2) C2 (zl m2) p2 e2 (ng n2) D2 (zl n2) q2 f2 (ng m3) C3 (zl m3) p3 e3 (ng n3) D3 (zl n3) q3 f3
  clear c0' r0' c1' r1' c2' r2' c3' r3' c4' r4' c5' r5' c6' r6' c7' r7' c8' r8' c9' r9' c10' r10' c11' r11' c12' r12' c13' r13' c14' r14' c15' r15' c16' r16' c17' r17'
  obtain ⟨W9, hW9⟩ : ∃ W9, put18 w6 w.heap.size (.bool (ng m1)) (.slice C1 (zl m1) p1) (.int .i64 e1) (.bool (ng n1)) (.slice D1 (zl n1) q1) (.int .i64 f1) (.bool (ng m2)) (.slice C2 (zl m2) p2) (.int .i64 e2) (.bool (ng n2)) (.slice D2 (zl n2) q2) (.int .i64 f2) (.bool (ng m3)) (.slice C3 (zl m3) p3) (.int .i64 e3) (.bool (ng n3)) (.slice D3 (zl n3) q3) (.int .i64 f3) = W9 := ⟨_, rfl⟩
  rw [hW9] at LP
  unfold put18 at hW9
  rw [hW9]
  clear hW9 L
  have k0' := LP.b0.cT0
  have k1' := LP.b0.cT1
  have k2' := LP.b0.cT2
  have k3' := LP.b0.cT3
  have k4' := LP.b0.cT4
  have k5' := LP.b0.cT5
  have k6' := LP.b0.cT6
  have k7' := LP.b0.cT7
  have k8' := LP.b0.cT8
  have k9' := LP.b0.cT9
  have k10' := LP.b0.cT10
  have k11' := LP.b0.cT11
  have k12' := LP.b0.cT12
  have k13' := LP.b0.cT13
  have k14' := LP.b0.cT14
  have k15' := LP.b0.cT15
  have k16' := LP.b0.cT16
  have k17' := LP.b0.cT17
  have hld : (loadVar 32 ⟨w.heap.size, 0, none⟩).run Tryz.prog W9 = .ok (.agg #[.bool (ng m1), .slice C1 (zl m1) p1, .int .i64 e1, .bool (ng n1), .slice D1 (zl n1) q1, .int .i64 f1, .bool (ng m2), .slice C2 (zl m2) p2, .int .i64 e2, .bool (ng n2), .slice D2 (zl n2) q2, .int .i64 f2, .bool (ng m3), .slice C3 (zl m3) p3, .int .i64 e3, .bool (ng n3), .slice D3 (zl n3) q3, .int .i64 f3]) W9 := run_loadVar_row W9 _ _ _ _ (0, 0) (.array 3 31) LP.b0.1 (by kernel_rfl) rfl (by kernel_rfl)
  refine bodyPost_ret (v := .agg #[.bool (ng m1), .slice C1 (zl m1) p1, .int .i64 e1, .bool (ng n1), .slice D1 (zl n1) q1, .int .i64 f1, .bool (ng m2), .slice C2 (zl m2) p2, .int .i64 e2, .bool (ng n2), .slice D2 (zl n2) q2, .int .i64 f2, .bool (ng m3), .slice C3 (zl m3) p3, .int .i64 e3, .bool (ng n3), .slice D3 (zl n3) q3, .int .i64 f3]) ?_ rfl ⟨_, rfl, isT_n (LP.getN (by simp)) (LP.getN (by simp)) (LP.getN (by simp)) (LP.getN (by simp)) (LP.getN (by simp)) (LP.getN (by simp)), LP.below⟩
  rw [results_one rfl]
  simp [asAddr, Result.andThen, hld]

end Go.Proofs.YtfnklkdbieikeaaGreatDoor
