/- The laws' three: the three constants and their errors. -/
import Derived.Test.YtfnklkdbieikeaaGreatDoorCpE
import Derived.Test.YtfnklkdbieikeaaGreatDoorRefCoL
import Derived.Test.YtfnklkdbieikeaaGreatDoorCoT
import Derived.Deep.RegionHeld3
import Derived.Deep.DrawnRows
import Derived.Deep.WholeRow
namespace Go.Proofs.YtfnklkdbieikeaaGreatDoor
open Go.RowKit
set_option linter.unusedVariables false
set_option linter.unusedSimpArgs false
set_option maxRecDepth 100000
attribute [local go_sem ↓] Go.wp_at_zero Go.wp_at_succ

theorem plainE3 (r1 r2 r3 : Int) : Plain #[.int .i64 r1, .int .i64 r2, .int .i64 r3] := fun j x => by
  match j with
  | 0 => simp
  | 1 => simp
  | 2 => simp
  | j + 3 => simp
def putE3 (w : World) (g : Nat) (a b c : Int) : World := ((w.setCell ⟨g, 0, none⟩ (.int .i64 a)).setCell ⟨g, 1, none⟩ (.int .i64 b)).setCell ⟨g, 2, none⟩ (.int .i64 c)
section
variable {w0 w : World} {ns : List (Value × Nat)} {zs : List (Value × Int)} {qs : List (Value × Int × Nat)} {bs : List (Nat × TypeId × Array Value)}
theorem Lq.varE3 (h : Lq w0 w ns zs qs bs) (g : Nat) (hg : g = w.heap.size) (r1 r2 r3 : Int) : Lq w0 (w.alloc (.cells #[.int .i64 r1, .int .i64 r2, .int .i64 r3] 34)) ns zs qs ((g, 34, #[.int .i64 r1, .int .i64 r2, .int .i64 r3]) :: bs) := h.var g hg _ _ (plainE3 _ _ _)
theorem Lq.putE3 {g : Nat} {x y z : Value} (h : Lq w0 w ns zs qs ((g, 34, #[x, y, z]) :: bs)) (hg : w0.heap.size ≤ g) (hd : ∀ p ∈ bs, p.1 ≠ g) (a b c : Int) :
    Lq w0 (putE3 w g a b c) ns zs qs ((g, 34, #[.int .i64 a, .int .i64 b, .int .i64 c]) :: bs) :=
  ((h.set hg hd 0 (.int .i64 a) (by intro x e; cases e)).set hg hd 1 (.int .i64 b) (by intro x e; cases e)).set hg hd 2 (.int .i64 c) (by intro x e; cases e)
end
/-- Three intervals and three errors; nothing that was there has turned. -/
def RetTE (w : World) (m1 e1 n1 f1 m2 e2 n2 f2 m3 e3 n3 f3 r1 r2 r3 : Int) (en : Ending) (w' : World) : Prop := ∃ v, en = .returned (.tuple #[v, .agg #[.int .i64 r1, .int .i64 r2, .int .i64 r3]]) ∧ IsT w' v m1 e1 n1 f1 m2 e2 n2 f2 m3 e3 n3 f3 ∧ Below w.heap.size w w'

set_option maxHeartbeats 16000000 in
theorem three_no (k : Int) (w : World) (hk : okW k = false) :
    Calls Tryz.prog 10 #[.int .i64 k] w (RetTE w 0 0 0 0 0 0 0 0 0 0 0 0 1 1 1) := by
  have g1 := fun W (hW : Below w.heap.size w W) => cpi_no k W hk
  have g2 := fun W (hW : Below w.heap.size w W) => cex_no k W hk
  have g3 := fun W (hW : Below w.heap.size w W) => cln_no k W hk
  have G1 := Lib.hid g1
  have G2 := Lib.hid g2
  have G3 := Lib.hid g3
  clear g1 g2 g3
  go_enter Tryz.func10, Tryz.ntmps10
  have L := ((Lq.mk0 w).varT w.heap.size rfl false none 0 0 0 false none 0 0 0 false none 0 0 0 false none 0 0 0 false none 0 0 0 false none 0 0 0).varE3 (w.heap.size + 1) (by simp) 0 0 0
  (try go_wp2_with fail)
  refine (G1.out _ L.below).mono ?_
  rintro e w1 ⟨vv, rfl, ii, be⟩
  obtain ⟨C1, p1, D1, q1, rfl, ia, ib⟩ := ii.form
  replace L := ((L.step be).n ib).n ia
  clear be ii ia ib
  have hl1 := L.b0.lt
  replace L := L.varI w1.heap.size rfl (ng 0) C1 (zl 0) p1 0 (ng 0) D1 (zl 0) q1 0
  have c00 := L.b0.c60
  have c01 := L.b0.c61
  have c02 := L.b0.c62
  have c03 := L.b0.c63
  have c04 := L.b0.c64
  have c05 := L.b0.c65
  go_wp2_with fail
  clear c00 c01 c02 c03 c04 c05
  obtain ⟨b1, hb1⟩ : ∃ g9, w1.heap.size = g9 := ⟨_, rfl⟩
  rw [hb1] at L hl1 ⊢
  clear hb1
  refine (G2.out _ L.below).mono ?_
  rintro e w2 ⟨vv, rfl, ii, be⟩
  obtain ⟨C2, p2, D2, q2, rfl, ia, ib⟩ := ii.form
  replace L := ((L.step be).n ib).n ia
  clear be ii ia ib
  have hl2 := L.tl.b0.lt
  replace L := L.varI w2.heap.size rfl (ng 0) C2 (zl 0) p2 0 (ng 0) D2 (zl 0) q2 0
  have c00 := L.b0.c60
  have c01 := L.b0.c61
  have c02 := L.b0.c62
  have c03 := L.b0.c63
  have c04 := L.b0.c64
  have c05 := L.b0.c65
  go_wp2_with fail
  clear c00 c01 c02 c03 c04 c05
  obtain ⟨b2, hb2⟩ : ∃ g9, w2.heap.size = g9 := ⟨_, rfl⟩
  rw [hb2] at L hl2 ⊢
  clear hb2
  refine (G3.out _ L.below).mono ?_
  rintro e w3 ⟨vv, rfl, ii, be⟩
  obtain ⟨C3, p3, D3, q3, rfl, ia, ib⟩ := ii.form
  replace L := ((L.step be).n ib).n ia
  clear be ii ia ib
  have hl3 := L.tl.tl.b0.lt
  have ha1 : w.heap.size < w3.heap.size := by omega
  have ha2 : w.heap.size ≠ w3.heap.size := by omega
  have ha3 : w.heap.size + 1 ≠ w3.heap.size := by omega
  have LN := L.varI w3.heap.size rfl (ng 0) C3 (zl 0) p3 0 (ng 0) D3 (zl 0) q3 0
  have x00' := LN.b0.c60
  have x10' := LN.tl.b0.c60
  have x20' := LN.tl.tl.b0.c60
  have y10' := L.b0.c60
  have y20' := L.tl.b0.c60
  have x01' := LN.b0.c61
  have x11' := LN.tl.b0.c61
  have x21' := LN.tl.tl.b0.c61
  have y11' := L.b0.c61
  have y21' := L.tl.b0.c61
  have x02' := LN.b0.c62
  have x12' := LN.tl.b0.c62
  have x22' := LN.tl.tl.b0.c62
  have y12' := L.b0.c62
  have y22' := L.tl.b0.c62
  have x03' := LN.b0.c63
  have x13' := LN.tl.b0.c63
  have x23' := LN.tl.tl.b0.c63
  have y13' := L.b0.c63
  have y23' := L.tl.b0.c63
  have x04' := LN.b0.c64
  have x14' := LN.tl.b0.c64
  have x24' := LN.tl.tl.b0.c64
  have y14' := L.b0.c64
  have y24' := L.tl.b0.c64
  have x05' := LN.b0.c65
  have x15' := LN.tl.b0.c65
  have x25' := LN.tl.tl.b0.c65
  have y15' := L.b0.c65
  have y25' := L.tl.b0.c65
  have L9 := L.subs (ns' := [(.slice C1 (zl 0) p1, (0 : Int).natAbs), (.slice D1 (zl 0) q1, (0 : Int).natAbs), (.slice C2 (zl 0) p2, (0 : Int).natAbs), (.slice D2 (zl 0) q2, (0 : Int).natAbs), (.slice C3 (zl 0) p3, (0 : Int).natAbs), (.slice D3 (zl 0) q3, (0 : Int).natAbs)]) (bs' := [(w.heap.size, 32, #[.bool false, .slice none 0 0, .int .i64 0, .bool false, .slice none 0 0, .int .i64 0, .bool false, .slice none 0 0, .int .i64 0, .bool false, .slice none 0 0, .int .i64 0, .bool false, .slice none 0 0, .int .i64 0, .bool false, .slice none 0 0, .int .i64 0]), (w.heap.size + 1, 34, #[.int .i64 0, .int .i64 0, .int .i64 0])]) (by simp) (by simp)
  clear L LN
  have L := L9
  clear L9
  have c0' := L.b0.cT0
  have r0' := L.b0.fr 0
  have c1' := L.b0.cT1
  have r1' := L.b0.fr 1
  have c2' := L.b0.cT2
  have r2' := L.b0.fr 2
  have c3' := L.b0.cT3
  have r3' := L.b0.fr 3
  have c4' := L.b0.cT4
  have r4' := L.b0.fr 4
  have c5' := L.b0.cT5
  have r5' := L.b0.fr 5
  have c6' := L.b0.cT6
  have r6' := L.b0.fr 6
  have c7' := L.b0.cT7
  have r7' := L.b0.fr 7
  have c8' := L.b0.cT8
  have r8' := L.b0.fr 8
  have c9' := L.b0.cT9
  have r9' := L.b0.fr 9
  have c10' := L.b0.cT10
  have r10' := L.b0.fr 10
  have c11' := L.b0.cT11
  have r11' := L.b0.fr 11
  have c12' := L.b0.cT12
  have r12' := L.b0.fr 12
  have c13' := L.b0.cT13
  have r13' := L.b0.fr 13
  have c14' := L.b0.cT14
  have r14' := L.b0.fr 14
  have c15' := L.b0.cT15
  have r15' := L.b0.fr 15
  have c16' := L.b0.cT16
  have r16' := L.b0.fr 16
  have c17' := L.b0.cT17
  have r17' := L.b0.fr 17
  have d0' := L.tl.b0.c30
  have s0' := L.tl.b0.fr 0
  have d1' := L.tl.b0.c31
  have s1' := L.tl.b0.fr 1
  have d2' := L.tl.b0.c32
  have s2' := L.tl.b0.fr 2
  (try go_wp2_with fail)
  clear x00' x10' x20' y10' y20' x01' x11' x21' y11' y21' x02' x12' x22' y12' y22' x03' x13' x23' y13' y23' x04' x14' x24' y14' y24' x05' x15' x25' y15' y25' c0' r0' c1' r1' c2' r2' c3' r3' c4' r4' c5' r5' c6' r6' c7' r7' c8' r8' c9' r9' c10' r10' c11' r11' c12' r12' c13' r13' c14' r14' c15' r15' c16' r16' c17' r17' d0' d1' d2' s0' s1' s2'
  have LP0 := ((L.putT (by omega) (by simp) (ng 0) C1 (zl 0) p1 0 (ng 0) D1 (zl 0) q1 0 (ng 0) C2 (zl 0) p2 0 (ng 0) D2 (zl 0) q2 0 (ng 0) C3 (zl 0) p3 0 (ng 0) D3 (zl 0) q3 0).swap.putE3 (by omega) (by simp) 1 1 1)
  have LP := LP0.varI _ rfl (ng 0) C3 (zl 0) p3 0 (ng 0) D3 (zl 0) q3 0
  clear LP0
  obtain ⟨W9, hW9⟩ : ∃ W9, (putE3 (put18 w3 w.heap.size (.bool (ng 0)) (.slice C1 (zl 0) p1) (.int .i64 0) (.bool (ng 0)) (.slice D1 (zl 0) q1) (.int .i64 0) (.bool (ng 0)) (.slice C2 (zl 0) p2) (.int .i64 0) (.bool (ng 0)) (.slice D2 (zl 0) q2) (.int .i64 0) (.bool (ng 0)) (.slice C3 (zl 0) p3) (.int .i64 0) (.bool (ng 0)) (.slice D3 (zl 0) q3) (.int .i64 0)) (w.heap.size + 1) 1 1 1).alloc (.cells #[.bool (ng 0), .slice C3 (zl 0) p3, .int .i64 0, .bool (ng 0), .slice D3 (zl 0) q3, .int .i64 0] 31) = W9 := ⟨_, rfl⟩
  rw [hW9] at LP
  unfold putE3 put18 at hW9
  rw [hW9]
  clear hW9 L
  have hld : (loadVar 32 ⟨w.heap.size, 0, none⟩).run Tryz.prog W9 = .ok (.agg #[.bool (ng 0), .slice C1 (zl 0) p1, .int .i64 0, .bool (ng 0), .slice D1 (zl 0) q1, .int .i64 0, .bool (ng 0), .slice C2 (zl 0) p2, .int .i64 0, .bool (ng 0), .slice D2 (zl 0) q2, .int .i64 0, .bool (ng 0), .slice C3 (zl 0) p3, .int .i64 0, .bool (ng 0), .slice D3 (zl 0) q3, .int .i64 0]) W9 := run_loadVar_row W9 _ _ _ _ (0, 0) (.array 3 31) LP.tl.tl.b0.1 (by kernel_rfl) rfl (by kernel_rfl)
  have hle : (loadVar 34 ⟨w.heap.size + 1, 0, none⟩).run Tryz.prog W9 = .ok (.agg #[.int .i64 1, .int .i64 1, .int .i64 1]) W9 := run_loadVar_row W9 _ _ _ _ (0, 0) (.array 3 33) LP.tl.b0.1 (by kernel_rfl) rfl (by kernel_rfl)
  refine bodyPost_ret (v := .tuple #[.agg #[.bool (ng 0), .slice C1 (zl 0) p1, .int .i64 0, .bool (ng 0), .slice D1 (zl 0) q1, .int .i64 0, .bool (ng 0), .slice C2 (zl 0) p2, .int .i64 0, .bool (ng 0), .slice D2 (zl 0) q2, .int .i64 0, .bool (ng 0), .slice C3 (zl 0) p3, .int .i64 0, .bool (ng 0), .slice D3 (zl 0) q3, .int .i64 0], .agg #[.int .i64 1, .int .i64 1, .int .i64 1]]) ?_ rfl ⟨_, rfl, isT_n (LP.getN (by simp)) (LP.getN (by simp)) (LP.getN (by simp)) (LP.getN (by simp)) (LP.getN (by simp)) (LP.getN (by simp)) , LP.below⟩
  rw [results_two rfl]
  simp [asAddr, Result.andThen, hld, hle]
set_option maxHeartbeats 16000000 in
theorem three_yes (k : Nat) (T1 T2 T3 : Int) (w : World) (hk : k ≤ 900) (hT : Tab w) (h1 : piT (k + 32) = some T1) (h2 : exT (k + 32) = some T2) (h3 : lnT (k + 32) = some T3) :
    Calls Tryz.prog 10 #[.int .i64 (k : Int)] w (RetTE w (mkM (loC T1) (-(k : Int))) (mkE (loC T1) (-(k : Int))) (mkM (hiC T1) (-(k : Int))) (mkE (hiC T1) (-(k : Int))) (mkM (loC T2) (-(k : Int))) (mkE (loC T2) (-(k : Int))) (mkM (hiC T2) (-(k : Int))) (mkE (hiC T2) (-(k : Int))) (mkM (loC T3) (-(k : Int))) (mkE (loC T3) (-(k : Int))) (mkM (hiC T3) (-(k : Int))) (mkE (hiC T3) (-(k : Int))) 0 0 0) := by
  have g1 := fun W (hW : Below w.heap.size w W) => cpi_yes k T1 W hk (hT.mono hW) h1
  have g2 := fun W (hW : Below w.heap.size w W) => cex_yes k T2 W hk (hT.mono hW) h2
  have g3 := fun W (hW : Below w.heap.size w W) => cln_yes k T3 W hk (hT.mono hW) h3
  generalize mkM (loC T1) (-(k : Int)) = m1 at *
  generalize mkE (loC T1) (-(k : Int)) = e1 at *
  generalize mkM (hiC T1) (-(k : Int)) = n1 at *
  generalize mkE (hiC T1) (-(k : Int)) = f1 at *
  generalize mkM (loC T2) (-(k : Int)) = m2 at *
  generalize mkE (loC T2) (-(k : Int)) = e2 at *
  generalize mkM (hiC T2) (-(k : Int)) = n2 at *
  generalize mkE (hiC T2) (-(k : Int)) = f2 at *
  generalize mkM (loC T3) (-(k : Int)) = m3 at *
  generalize mkE (loC T3) (-(k : Int)) = e3 at *
  generalize mkM (hiC T3) (-(k : Int)) = n3 at *
  generalize mkE (hiC T3) (-(k : Int)) = f3 at *
  clear h1 h2 h3
  have G1 := Lib.hid g1
  have G2 := Lib.hid g2
  have G3 := Lib.hid g3
  clear g1 g2 g3
  go_enter Tryz.func10, Tryz.ntmps10
  have L := ((Lq.mk0 w).varT w.heap.size rfl false none 0 0 0 false none 0 0 0 false none 0 0 0 false none 0 0 0 false none 0 0 0 false none 0 0 0).varE3 (w.heap.size + 1) (by simp) 0 0 0
  (try go_wp2_with fail)
  refine (G1.out _ L.below).mono ?_
  rintro e w1 ⟨vv, rfl, ii, be⟩
  obtain ⟨C1, p1, D1, q1, rfl, ia, ib⟩ := ii.form
  replace L := ((L.step be).n ib).n ia
  clear be ii ia ib
  have hl1 := L.b0.lt
  replace L := L.varI w1.heap.size rfl (ng m1) C1 (zl m1) p1 e1 (ng n1) D1 (zl n1) q1 f1
  have c00 := L.b0.c60
  have c01 := L.b0.c61
  have c02 := L.b0.c62
  have c03 := L.b0.c63
  have c04 := L.b0.c64
  have c05 := L.b0.c65
  go_wp2_with fail
  clear c00 c01 c02 c03 c04 c05
  obtain ⟨b1, hb1⟩ : ∃ g9, w1.heap.size = g9 := ⟨_, rfl⟩
  rw [hb1] at L hl1 ⊢
  clear hb1
  refine (G2.out _ L.below).mono ?_
  rintro e w2 ⟨vv, rfl, ii, be⟩
  obtain ⟨C2, p2, D2, q2, rfl, ia, ib⟩ := ii.form
  replace L := ((L.step be).n ib).n ia
  clear be ii ia ib
  have hl2 := L.tl.b0.lt
  replace L := L.varI w2.heap.size rfl (ng m2) C2 (zl m2) p2 e2 (ng n2) D2 (zl n2) q2 f2
  have c00 := L.b0.c60
  have c01 := L.b0.c61
  have c02 := L.b0.c62
  have c03 := L.b0.c63
  have c04 := L.b0.c64
  have c05 := L.b0.c65
  go_wp2_with fail
  clear c00 c01 c02 c03 c04 c05
  obtain ⟨b2, hb2⟩ : ∃ g9, w2.heap.size = g9 := ⟨_, rfl⟩
  rw [hb2] at L hl2 ⊢
  clear hb2
  refine (G3.out _ L.below).mono ?_
  rintro e w3 ⟨vv, rfl, ii, be⟩
  obtain ⟨C3, p3, D3, q3, rfl, ia, ib⟩ := ii.form
  replace L := ((L.step be).n ib).n ia
  clear be ii ia ib
  have hl3 := L.tl.tl.b0.lt
  have ha1 : w.heap.size < w3.heap.size := by omega
  have ha2 : w.heap.size ≠ w3.heap.size := by omega
  have ha3 : w.heap.size + 1 ≠ w3.heap.size := by omega
  have LN := L.varI w3.heap.size rfl (ng m3) C3 (zl m3) p3 e3 (ng n3) D3 (zl n3) q3 f3
  have x00' := LN.b0.c60
  have x10' := LN.tl.b0.c60
  have x20' := LN.tl.tl.b0.c60
  have y10' := L.b0.c60
  have y20' := L.tl.b0.c60
  have x01' := LN.b0.c61
  have x11' := LN.tl.b0.c61
  have x21' := LN.tl.tl.b0.c61
  have y11' := L.b0.c61
  have y21' := L.tl.b0.c61
  have x02' := LN.b0.c62
  have x12' := LN.tl.b0.c62
  have x22' := LN.tl.tl.b0.c62
  have y12' := L.b0.c62
  have y22' := L.tl.b0.c62
  have x03' := LN.b0.c63
  have x13' := LN.tl.b0.c63
  have x23' := LN.tl.tl.b0.c63
  have y13' := L.b0.c63
  have y23' := L.tl.b0.c63
  have x04' := LN.b0.c64
  have x14' := LN.tl.b0.c64
  have x24' := LN.tl.tl.b0.c64
  have y14' := L.b0.c64
  have y24' := L.tl.b0.c64
  have x05' := LN.b0.c65
  have x15' := LN.tl.b0.c65
  have x25' := LN.tl.tl.b0.c65
  have y15' := L.b0.c65
  have y25' := L.tl.b0.c65
  have L9 := L.subs (ns' := [(.slice C1 (zl m1) p1, (m1 : Int).natAbs), (.slice D1 (zl n1) q1, (n1 : Int).natAbs), (.slice C2 (zl m2) p2, (m2 : Int).natAbs), (.slice D2 (zl n2) q2, (n2 : Int).natAbs), (.slice C3 (zl m3) p3, (m3 : Int).natAbs), (.slice D3 (zl n3) q3, (n3 : Int).natAbs)]) (bs' := [(w.heap.size, 32, #[.bool false, .slice none 0 0, .int .i64 0, .bool false, .slice none 0 0, .int .i64 0, .bool false, .slice none 0 0, .int .i64 0, .bool false, .slice none 0 0, .int .i64 0, .bool false, .slice none 0 0, .int .i64 0, .bool false, .slice none 0 0, .int .i64 0]), (w.heap.size + 1, 34, #[.int .i64 0, .int .i64 0, .int .i64 0])]) (by simp) (by simp)
  clear L LN
  have L := L9
  clear L9
  have c0' := L.b0.cT0
  have r0' := L.b0.fr 0
  have c1' := L.b0.cT1
  have r1' := L.b0.fr 1
  have c2' := L.b0.cT2
  have r2' := L.b0.fr 2
  have c3' := L.b0.cT3
  have r3' := L.b0.fr 3
  have c4' := L.b0.cT4
  have r4' := L.b0.fr 4
  have c5' := L.b0.cT5
  have r5' := L.b0.fr 5
  have c6' := L.b0.cT6
  have r6' := L.b0.fr 6
  have c7' := L.b0.cT7
  have r7' := L.b0.fr 7
  have c8' := L.b0.cT8
  have r8' := L.b0.fr 8
  have c9' := L.b0.cT9
  have r9' := L.b0.fr 9
  have c10' := L.b0.cT10
  have r10' := L.b0.fr 10
  have c11' := L.b0.cT11
  have r11' := L.b0.fr 11
  have c12' := L.b0.cT12
  have r12' := L.b0.fr 12
  have c13' := L.b0.cT13
  have r13' := L.b0.fr 13
  have c14' := L.b0.cT14
  have r14' := L.b0.fr 14
  have c15' := L.b0.cT15
  have r15' := L.b0.fr 15
  have c16' := L.b0.cT16
  have r16' := L.b0.fr 16
  have c17' := L.b0.cT17
  have r17' := L.b0.fr 17
  have d0' := L.tl.b0.c30
  have s0' := L.tl.b0.fr 0
  have d1' := L.tl.b0.c31
  have s1' := L.tl.b0.fr 1
  have d2' := L.tl.b0.c32
  have s2' := L.tl.b0.fr 2
  (try go_wp2_with fail)
  clear x00' x10' x20' y10' y20' x01' x11' x21' y11' y21' x02' x12' x22' y12' y22' x03' x13' x23' y13' y23' x04' x14' x24' y14' y24' x05' x15' x25' y15' y25' c0' r0' c1' r1' c2' r2' c3' r3' c4' r4' c5' r5' c6' r6' c7' r7' c8' r8' c9' r9' c10' r10' c11' r11' c12' r12' c13' r13' c14' r14' c15' r15' c16' r16' c17' r17' d0' d1' d2' s0' s1' s2'
  have LP0 := ((L.putT (by omega) (by simp) (ng m1) C1 (zl m1) p1 e1 (ng n1) D1 (zl n1) q1 f1 (ng m2) C2 (zl m2) p2 e2 (ng n2) D2 (zl n2) q2 f2 (ng m3) C3 (zl m3) p3 e3 (ng n3) D3 (zl n3) q3 f3).swap.putE3 (by omega) (by simp) 0 0 0)
  have LP := LP0.varI _ rfl (ng m3) C3 (zl m3) p3 e3 (ng n3) D3 (zl n3) q3 f3
  clear LP0
  obtain ⟨W9, hW9⟩ : ∃ W9, (putE3 (put18 w3 w.heap.size (.bool (ng m1)) (.slice C1 (zl m1) p1) (.int .i64 e1) (.bool (ng n1)) (.slice D1 (zl n1) q1) (.int .i64 f1) (.bool (ng m2)) (.slice C2 (zl m2) p2) (.int .i64 e2) (.bool (ng n2)) (.slice D2 (zl n2) q2) (.int .i64 f2) (.bool (ng m3)) (.slice C3 (zl m3) p3) (.int .i64 e3) (.bool (ng n3)) (.slice D3 (zl n3) q3) (.int .i64 f3)) (w.heap.size + 1) 0 0 0).alloc (.cells #[.bool (ng m3), .slice C3 (zl m3) p3, .int .i64 e3, .bool (ng n3), .slice D3 (zl n3) q3, .int .i64 f3] 31) = W9 := ⟨_, rfl⟩
  rw [hW9] at LP
  unfold putE3 put18 at hW9
  rw [hW9]
  clear hW9 L
  have hld : (loadVar 32 ⟨w.heap.size, 0, none⟩).run Tryz.prog W9 = .ok (.agg #[.bool (ng m1), .slice C1 (zl m1) p1, .int .i64 e1, .bool (ng n1), .slice D1 (zl n1) q1, .int .i64 f1, .bool (ng m2), .slice C2 (zl m2) p2, .int .i64 e2, .bool (ng n2), .slice D2 (zl n2) q2, .int .i64 f2, .bool (ng m3), .slice C3 (zl m3) p3, .int .i64 e3, .bool (ng n3), .slice D3 (zl n3) q3, .int .i64 f3]) W9 := run_loadVar_row W9 _ _ _ _ (0, 0) (.array 3 31) LP.tl.tl.b0.1 (by kernel_rfl) rfl (by kernel_rfl)
  have hle : (loadVar 34 ⟨w.heap.size + 1, 0, none⟩).run Tryz.prog W9 = .ok (.agg #[.int .i64 0, .int .i64 0, .int .i64 0]) W9 := run_loadVar_row W9 _ _ _ _ (0, 0) (.array 3 33) LP.tl.b0.1 (by kernel_rfl) rfl (by kernel_rfl)
  refine bodyPost_ret (v := .tuple #[.agg #[.bool (ng m1), .slice C1 (zl m1) p1, .int .i64 e1, .bool (ng n1), .slice D1 (zl n1) q1, .int .i64 f1, .bool (ng m2), .slice C2 (zl m2) p2, .int .i64 e2, .bool (ng n2), .slice D2 (zl n2) q2, .int .i64 f2, .bool (ng m3), .slice C3 (zl m3) p3, .int .i64 e3, .bool (ng n3), .slice D3 (zl n3) q3, .int .i64 f3], .agg #[.int .i64 0, .int .i64 0, .int .i64 0]]) ?_ rfl ⟨_, rfl, isT_n (LP.getN (by simp)) (LP.getN (by simp)) (LP.getN (by simp)) (LP.getN (by simp)) (LP.getN (by simp)) (LP.getN (by simp)) , LP.below⟩
  rw [results_two rfl]
  simp [asAddr, Result.andThen, hld, hle]

end Go.Proofs.YtfnklkdbieikeaaGreatDoor
