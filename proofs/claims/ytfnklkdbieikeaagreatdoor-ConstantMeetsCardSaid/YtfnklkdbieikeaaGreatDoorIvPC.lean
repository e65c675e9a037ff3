/- The program's interval: slices.Clone, copied, between, Point, Make, Hull. -/
import Derived.Test.YtfnklkdbieikeaaGreatDoorBaseZ
import Derived.Test.YtfnklkdbieikeaaGreatDoorBaseW
import Derived.Deep.RegionHeld3
import Derived.Deep.DrawnRows
import Derived.Lib.SliceRun
namespace Go.Proofs.YtfnklkdbieikeaaGreatDoor
open Go.RowKit
set_option linter.unusedVariables false
set_option linter.unusedSimpArgs false
set_option maxRecDepth 100000
attribute [local go_sem ↓] Go.wp_at_zero Go.wp_at_succ

theorem own_lit0 (w : World) : Own (w.alloc (.cells #[] 107)) w.heap.size (.slice (some ⟨w.heap.size, 0, none⟩) 0 0) [] :=
  ⟨World.ownsRow_lit w #[] 0 (Nat.le_refl _) (by unfold maxLen; omega) rfl, small_nil⟩
/-- A natural, in memory that is not an argument's. -/
def RetNn (w : World) (x : Nat) (en : Ending) (w' : World) : Prop := ∃ v, en = .returned v ∧ IsN w' v x ∧ Below w.heap.size w w'
set_option maxHeartbeats 2000000 in
theorem clone_any (x : Nat) (vx : Value) (w : World) (hx : IsN w vx x) (hl : len x ≤ 1000000) :
    Calls Tryz.prog 195 #[vx] w (RetNn w x) := by
  obtain ⟨A, n, c, rfl, hs⟩ := hx
  have qT : ∀ (w : World) (a : Option Addr) (n c n' c' : Nat), (binOp .eql 25 (.slice a n c) (.slice none n' c')).run Tryz.prog w = .ok (.bool a.isNone) w := fun w a n c n' c' => Lib.run_eql_slice_nil w _ _ a n c n' c' Tryz.underlying25
  have hn : len x = n := by rw [← length_dig]; exact hs.len
  cases A with
  | none =>
    have hx0 : x = 0 := by
      rcases Nat.eq_zero_or_pos n with h0 | h0
      · rw [h0] at hn
        rcases Nat.eq_zero_or_pos x with h1 | h1
        · exact h1
        · have := len_pos h1
          omega
      · obtain ⟨_, _, e, _⟩ := hs.place h0
        cases e
    subst hx0
    clear hs hn hl
    go_enter Tryz.func195, Tryz.ntmps195
    go_wp2_with fail
    go_ret
    exact ⟨_, rfl, IsN.zero _, Below.refl _ _⟩
  | some a =>
    have hsl : n ≤ 1000000 := by omega
    have HS := Lib.hid hs
    clear hs hn hl
    go_enter Tryz.func195, Tryz.ntmps195
    go_wp2_with (at_builtin; refine wp_appS _ rfl _ _ rfl w.heap.size _ [] rfl (own_lit0 w) (some a) n c (dig x) rfl (HS.out.mono ((Below.refl _ w).alloc (Nat.le_refl _) _)) (by simp; omega) (by simp) ?_)
    intro v2 w2 h2 g2
    have b2 := ((Below.refl w.heap.size w).alloc (Nat.le_refl _) (.cells #[] 107)).grown g2 (by simp) (fun k hk => (own_lit0 w).blockGe k hk)
    have h2' : Own w2 w.heap.size v2 (dig x) := h2
    obtain ⟨A2, c2, e2, hs2, _⟩ := h2'.form
    clear h2 g2 h2'
    go_wp2_with fail
    go_ret
    exact ⟨v2, rfl, ⟨A2, _, c2, e2, hs2⟩, b2⟩

set_option maxHeartbeats 4000000 in
theorem icopied_any (m e : Int) (vx : Value) (w : World) (hx : IsD w vx m e) (lm : zl m ≤ 1000) :
    Calls Tryz.prog 185 #[vx] w (RetD8 w m e) := by
  obtain ⟨A, c, rfl, _, hn1⟩ := hx.form
  have L0 := (Lq.mk0 w).n hn1
  have HC := Lib.hid (fun v W h => clone_any m.natAbs v W h (show len m.natAbs ≤ 1000000 from Nat.le_trans lm (by omega)))
  clear hx hn1 lm
  go_enter Tryz.func185, Tryz.ntmps185
  go_wp2_with fail
  have L := ((L0.varD (w.heap.size) (by simp) (ng m) A (zl m) c e).varD (w.heap.size + 1) (by simp) false none 0 0 0)
  have c00 := L.b0.c30
  have f00 := L.b0.fr 0
  have c01 := L.b0.c31
  have f01 := L.b0.fr 1
  have c02 := L.b0.c32
  have f02 := L.b0.fr 2
  have c10 := L.tl.b0.c30
  have f10 := L.tl.b0.fr 0
  have c11 := L.tl.b0.c31
  have f11 := L.tl.b0.fr 1
  have c12 := L.tl.b0.c32
  have f12 := L.tl.b0.fr 2
  (try go_wp2_with fail)
  refine (HC.out _ _ (L.getN (v := .slice A (zl m) c) (x := (m).natAbs) (by simp))).mono ?_
  rintro e w1 ⟨v9, rfl, in9, be⟩
  clear c00 f00 c01 f01 c02 f02 c10 f10 c11 f11 c12 f12
  obtain ⟨A9, c9, e9⟩ := in9.form
  replace e9 : v9 = .slice A9 (zl m) c9 := e9
  subst e9
  replace L := (L.step be).n in9
  clear be in9
  replace L := L.swap
  have c00 := L.b0.c30
  have f00 := L.b0.fr 0
  have c01 := L.b0.c31
  have f01 := L.b0.fr 1
  have c02 := L.b0.c32
  have f02 := L.b0.fr 2
  have c10 := L.tl.b0.c30
  have f10 := L.tl.b0.fr 0
  have c11 := L.tl.b0.c31
  have f11 := L.tl.b0.fr 1
  have c12 := L.tl.b0.c32
  have f12 := L.tl.b0.fr 2
  have LS : Lq _ _ _ _ _ ((w.heap.size, 29, #[.bool (ng m), .slice A9 (zl m) c9, .int .i64 e]) :: _) := L.set (by omega) (by first | (simp; done) | (simp; omega)) 1 (.slice A9 (zl m) c9) (by intro x e; cases e)
  have s00 := LS.b0.c30
  have s01 := LS.b0.c31
  have s02 := LS.b0.c32
  have r00 := LS.tl.b0.fr 0
  have r01 := LS.tl.b0.fr 1
  have r02 := LS.tl.b0.fr 2
  (try go_wp2_with fail)
  clear s00 s01 s02 r00 r01 r02
  replace L := LS.swap
  clear LS
  have LP := L.putD (by omega) (by first | (simp; done) | (simp; omega)) (ng m) A9 (zl m) c9 (e)
  have k0 := LP.b0.c30
  have k1 := LP.b0.c31
  have k2 := LP.b0.c32
  unfold put3 at k0 k1 k2
  exact bodyPost_ret (v := .agg #[.bool (ng m), .slice A9 (zl m) c9, .int .i64 (e)]) (by simp [results, Tryz.results185, go_sem, k0, k1, k2]) rfl ⟨_, rfl, isD_n (LP.getN (by simp)), LP.below⟩
set_option maxHeartbeats 8000000 in
theorem ibetween_any (m e n f : Int) (vx vy : Value) (w : World) (hx : IsD w vx m e) (hy : IsD w vy n f) (lm : zl m ≤ 1000) (ln : zl n ≤ 1000) (he : -70000 ≤ e ∧ e ≤ 70000) (hf : -70000 ≤ f ∧ f ≤ 70000) :
    Calls Tryz.prog 160 #[vx, vy] w (RetI6 w m e n f) := by
  obtain ⟨A, c, rfl, _, hn1⟩ := hx.form
  obtain ⟨B, d, rfl, _, hn2⟩ := hy.form
  have L0 := ((Lq.mk0 w).n hn2).n hn1
  have H1 := Lib.hid (fun v W h => icopied_any m e v W h lm)
  have H2 := Lib.hid (fun v W h => icopied_any n f v W h ln)
  clear hx hy hn1 hn2 lm ln he hf
  go_enter Tryz.func160, Tryz.ntmps160
  go_wp2_with fail
  have L := (((L0.varD (w.heap.size) (by simp) (ng m) A (zl m) c e).varD (w.heap.size + 1) (by simp) (ng n) B (zl n) d f).varI (w.heap.size + 2) (by simp) false none 0 0 0 false none 0 0 0)
  replace L := L.drew
  have c00 := L.b0.c60
  have f00 := L.b0.fr 0
  have c01 := L.b0.c61
  have f01 := L.b0.fr 1
  have c02 := L.b0.c62
  have f02 := L.b0.fr 2
  have c03 := L.b0.c63
  have f03 := L.b0.fr 3
  have c04 := L.b0.c64
  have f04 := L.b0.fr 4
  have c05 := L.b0.c65
  have f05 := L.b0.fr 5
  have c10 := L.tl.b0.c30
  have c11 := L.tl.b0.c31
  have c12 := L.tl.b0.c32
  have c20 := L.tl.tl.b0.c30
  have c21 := L.tl.tl.b0.c31
  have c22 := L.tl.tl.b0.c32
  go_region_held3 (fun w' => w'.cell? ⟨w.heap.size, 0, none⟩ = some (.bool (ng m)) ∧ w'.cell? ⟨w.heap.size, 1, none⟩ = some (.slice A (zl m) c) ∧ w'.cell? ⟨w.heap.size, 2, none⟩ = some (.int .i64 e) ∧ w'.cell? ⟨w.heap.size + 1, 0, none⟩ = some (.bool (ng n)) ∧ w'.cell? ⟨w.heap.size + 1, 1, none⟩ = some (.slice B (zl n) d) ∧ w'.cell? ⟨w.heap.size + 1, 2, none⟩ = some (.int .i64 f)) (first | (with_reducible exact ⟨L.tl.tl.b0.c30, L.tl.tl.b0.c31, L.tl.tl.b0.c32, L.tl.b0.c30, L.tl.b0.c31, L.tl.b0.c32⟩) | (have LP := L.putI (by omega) (by first | (simp; done) | (simp; omega)) (ng m) A8 (zl m) c8 (e) (ng n) A9 (zl n) c9 (f); unfold put6 at LP; with_reducible exact ⟨LP.tl.tl.b0.c30, LP.tl.tl.b0.c31, LP.tl.tl.b0.c32, LP.tl.b0.c30, LP.tl.b0.c31, LP.tl.b0.c32⟩) | exact ⟨L.tl.tl.b0.c30, L.tl.tl.b0.c31, L.tl.tl.b0.c32, L.tl.b0.c30, L.tl.b0.c31, L.tl.b0.c32⟩) (first | (go_at_call 185; (with_reducible refine (H1.out _ _ ?_ ).mono ?_); (· (refine isD_n (L.getN ?_); (repeat (first | (with_reducible exact List.mem_cons_self) | apply List.mem_cons_of_mem)))); rintro e wh ⟨vh, rfl, id, be⟩; obtain ⟨A8, c8, rfl, _, in9⟩ := id.form; replace L := (L.step be).n in9; clear be id in9; (try (have x00 := L.b0.c60; have y00 := L.b0.fr 0; have x01 := L.b0.c61; have y01 := L.b0.fr 1; have x02 := L.b0.c62; have y02 := L.b0.fr 2; have x03 := L.b0.c63; have y03 := L.b0.fr 3; have x04 := L.b0.c64; have y04 := L.b0.fr 4; have x05 := L.b0.c65; have y05 := L.b0.fr 5))) | (go_at_call 185; (with_reducible refine (H2.out _ _ ?_ ).mono ?_); (· (refine isD_n (L.getN ?_); (repeat (first | (with_reducible exact List.mem_cons_self) | apply List.mem_cons_of_mem)))); rintro e wh ⟨vh, rfl, id, be⟩; obtain ⟨A9, c9, rfl, _, in9⟩ := id.form; replace L := (L.step be).n in9; clear be id in9; (try (have x00 := L.b0.c60; have y00 := L.b0.fr 0; have x01 := L.b0.c61; have y01 := L.b0.fr 1; have x02 := L.b0.c62; have y02 := L.b0.fr 2; have x03 := L.b0.c63; have y03 := L.b0.fr 3; have x04 := L.b0.c64; have y04 := L.b0.fr 4; have x05 := L.b0.c65; have y05 := L.b0.fr 5))))
  clear c00 f00 c01 f01 c02 f02 c03 f03 c04 f04 c05 f05 c10 c11 c12 c20 c21 c22
  go_wp2_with fail
  have LP := L.putI (by omega) (by first | (simp; done) | (simp; omega)) (ng m) A8 (zl m) c8 e (ng n) A9 (zl n) c9 f
  have k0 := LP.b0.c60
  have k1 := LP.b0.c61
  have k2 := LP.b0.c62
  have k3 := LP.b0.c63
  have k4 := LP.b0.c64
  have k5 := LP.b0.c65
  unfold put6 at k0 k1 k2 k3 k4 k5
  exact bodyPost_ret (v := .agg #[.bool (ng m), .slice A8 (zl m) c8, .int .i64 e, .bool (ng n), .slice A9 (zl n) c9, .int .i64 f]) (by simp [results, Tryz.results160, go_sem, k0, k1, k2, k3, k4, k5]) rfl ⟨_, rfl, isI_n (LP.getN (by simp)) (LP.getN (by simp)), LP.below⟩
set_option maxHeartbeats 8000000 in
theorem i10hull_any (m e n f m2 e2 n2 f2 : Int) (vx vy : Value) (w : World) (hx : IsI w vx m e n f) (hy : IsI w vy m2 e2 n2 f2) (lm : zl m ≤ 1000) (ln : zl n ≤ 1000) (lm2 : zl m2 ≤ 1000) (ln2 : zl n2 ≤ 1000) (he : -20000 ≤ e ∧ e ≤ 20000) (hf : -20000 ≤ f ∧ f ≤ 20000) (he2 : -20000 ≤ e2 ∧ e2 ≤ 20000) (hf2 : -20000 ≤ f2 ∧ f2 ≤ 20000) (hv1 : Dv m e) (hv2 : Dv n f) (hv3 : Dv m2 e2) (hv4 : Dv n2 f2) :
    Calls Tryz.prog 113 #[vx, vy] w (RetI6 w (lstD m e m2 e2).1 (lstD m e m2 e2).2 (gstD n f n2 f2).1 (gstD n f n2 f2).2) := by
  obtain ⟨A, c, B, d, rfl, hn1, hn2⟩ := hx.form
  obtain ⟨A2, k2, B2, d2, rfl, hn3, hn4⟩ := hy.form
  have L0 := ((((Lq.mk0 w).n hn4).n hn3).n hn2).n hn1
  have h1 := fun v u W k1 k2 => ilesser_any m e m2 e2 v u W k1 k2 lm lm2 he he2
  have h2 := fun v u W k1 k2 => igreater_any n f n2 f2 v u W k1 k2 ln ln2 hf hf2 hv2 hv4
  have z1 := lstD_zl lm lm2 (e := e) (f := e2)
  have z2 := gstD_zl ln ln2 (e := f) (f := f2)
  have i1 := lstD_in he he2 (m := m) (n := m2)
  have i2 := gstD_in hf hf2 (m := n) (n := n2)
  obtain ⟨um, ue, hu⟩ : ∃ x y, lstD m e m2 e2 = (x, y) := ⟨_, _, rfl⟩
  obtain ⟨zm, ze, hz⟩ : ∃ x y, gstD n f n2 f2 = (x, y) := ⟨_, _, rfl⟩
  rw [hu] at h1 z1 i1 ⊢
  rw [hz] at h2 z2 i2 ⊢
  simp only at z1 z2 i1 i2
  have HB := Lib.hid (fun v u W k1 k2 => ibetween_any um ue zm ze v u W k1 k2 z1 z2 (by omega) (by omega))
  have H1 := Lib.hid h1
  have H2 := Lib.hid h2
  dsimp only
  clear h1 h2 hu hz hx hy hn1 hn2 hn3 hn4 lm ln lm2 ln2 he hf he2 hf2 hv1 hv2 hv3 hv4 z1 z2 i1 i2
  go_enter Tryz.func113, Tryz.ntmps113
  go_wp2_with fail
  have L := (((L0.varI (w.heap.size) (by simp) (ng m) A (zl m) c e (ng n) B (zl n) d f).varI (w.heap.size + 1) (by simp) (ng m2) A2 (zl m2) k2 e2 (ng n2) B2 (zl n2) d2 f2).varI (w.heap.size + 2) (by simp) false none 0 0 0 false none 0 0 0)
  replace L := L.drew
  have c00 := L.b0.c60
  have f00 := L.b0.fr 0
  have c01 := L.b0.c61
  have f01 := L.b0.fr 1
  have c02 := L.b0.c62
  have f02 := L.b0.fr 2
  have c03 := L.b0.c63
  have f03 := L.b0.fr 3
  have c04 := L.b0.c64
  have f04 := L.b0.fr 4
  have c05 := L.b0.c65
  have f05 := L.b0.fr 5
  have c10 := L.tl.b0.c60
  have c11 := L.tl.b0.c61
  have c12 := L.tl.b0.c62
  have c13 := L.tl.b0.c63
  have c14 := L.tl.b0.c64
  have c15 := L.tl.b0.c65
  have c20 := L.tl.tl.b0.c60
  have c21 := L.tl.tl.b0.c61
  have c22 := L.tl.tl.b0.c62
  have c23 := L.tl.tl.b0.c63
  have c24 := L.tl.tl.b0.c64
  have c25 := L.tl.tl.b0.c65
  go_region_held3 (fun w' => w'.cell? ⟨w.heap.size, 0, none⟩ = some (.bool (ng m)) ∧ w'.cell? ⟨w.heap.size, 1, none⟩ = some (.slice A (zl m) c) ∧ w'.cell? ⟨w.heap.size, 2, none⟩ = some (.int .i64 e) ∧ w'.cell? ⟨w.heap.size, 3, none⟩ = some (.bool (ng n)) ∧ w'.cell? ⟨w.heap.size, 4, none⟩ = some (.slice B (zl n) d) ∧ w'.cell? ⟨w.heap.size, 5, none⟩ = some (.int .i64 f) ∧ w'.cell? ⟨w.heap.size + 1, 0, none⟩ = some (.bool (ng m2)) ∧ w'.cell? ⟨w.heap.size + 1, 1, none⟩ = some (.slice A2 (zl m2) k2) ∧ w'.cell? ⟨w.heap.size + 1, 2, none⟩ = some (.int .i64 e2) ∧ w'.cell? ⟨w.heap.size + 1, 3, none⟩ = some (.bool (ng n2)) ∧ w'.cell? ⟨w.heap.size + 1, 4, none⟩ = some (.slice B2 (zl n2) d2) ∧ w'.cell? ⟨w.heap.size + 1, 5, none⟩ = some (.int .i64 f2)) (first | (with_reducible exact ⟨L.tl.tl.b0.c60, L.tl.tl.b0.c61, L.tl.tl.b0.c62, L.tl.tl.b0.c63, L.tl.tl.b0.c64, L.tl.tl.b0.c65, L.tl.b0.c60, L.tl.b0.c61, L.tl.b0.c62, L.tl.b0.c63, L.tl.b0.c64, L.tl.b0.c65⟩) | (have LP := L.putI (by omega) (by first | (simp; done) | (simp; omega)) (ng um) A7 (zl um) c7 (ue) (ng zm) B7 (zl zm) d7 (ze); unfold put6 at LP; with_reducible exact ⟨LP.tl.tl.b0.c60, LP.tl.tl.b0.c61, LP.tl.tl.b0.c62, LP.tl.tl.b0.c63, LP.tl.tl.b0.c64, LP.tl.tl.b0.c65, LP.tl.b0.c60, LP.tl.b0.c61, LP.tl.b0.c62, LP.tl.b0.c63, LP.tl.b0.c64, LP.tl.b0.c65⟩) | exact ⟨L.tl.tl.b0.c60, L.tl.tl.b0.c61, L.tl.tl.b0.c62, L.tl.tl.b0.c63, L.tl.tl.b0.c64, L.tl.tl.b0.c65, L.tl.b0.c60, L.tl.b0.c61, L.tl.b0.c62, L.tl.b0.c63, L.tl.b0.c64, L.tl.b0.c65⟩) (first | (go_at_call 161; (with_reducible refine (H1.out _ _ _ ?_ ?_ ).mono ?_); (· (refine isD_n (L.getN ?_); (repeat (first | (with_reducible exact List.mem_cons_self) | apply List.mem_cons_of_mem)))); (· (refine isD_n (L.getN ?_); (repeat (first | (with_reducible exact List.mem_cons_self) | apply List.mem_cons_of_mem)))); rintro e wh ⟨vh, rfl, id, be⟩; obtain ⟨A8, c8, rfl, _, in9⟩ := id.form; replace L := (L.step be).n in9; clear be id in9; (try (have x00 := L.b0.c60; have y00 := L.b0.fr 0; have x01 := L.b0.c61; have y01 := L.b0.fr 1; have x02 := L.b0.c62; have y02 := L.b0.fr 2; have x03 := L.b0.c63; have y03 := L.b0.fr 3; have x04 := L.b0.c64; have y04 := L.b0.fr 4; have x05 := L.b0.c65; have y05 := L.b0.fr 5))) | (go_at_call 162; (with_reducible refine (H2.out _ _ _ ?_ ?_ ).mono ?_); (· (refine isD_n (L.getN ?_); (repeat (first | (with_reducible exact List.mem_cons_self) | apply List.mem_cons_of_mem)))); (· (refine isD_n (L.getN ?_); (repeat (first | (with_reducible exact List.mem_cons_self) | apply List.mem_cons_of_mem)))); rintro e wh ⟨vh, rfl, id, be⟩; obtain ⟨A9, c9, rfl, _, in9⟩ := id.form; replace L := (L.step be).n in9; clear be id in9; (try (have x00 := L.b0.c60; have y00 := L.b0.fr 0; have x01 := L.b0.c61; have y01 := L.b0.fr 1; have x02 := L.b0.c62; have y02 := L.b0.fr 2; have x03 := L.b0.c63; have y03 := L.b0.fr 3; have x04 := L.b0.c64; have y04 := L.b0.fr 4; have x05 := L.b0.c65; have y05 := L.b0.fr 5))) | (go_at_call 160; (with_reducible refine (HB.out _ _ _ ?_ ?_ ).mono ?_); (· (refine isD_n (L.getN ?_); (repeat (first | (with_reducible exact List.mem_cons_self) | apply List.mem_cons_of_mem)))); (· (refine isD_n (L.getN ?_); (repeat (first | (with_reducible exact List.mem_cons_self) | apply List.mem_cons_of_mem)))); rintro e wh ⟨vh, rfl, ii, be⟩; obtain ⟨A7, c7, B7, d7, rfl, ia, ib⟩ := ii.form; replace L := ((L.step be).n ib).n ia; clear be ii ia ib; (try (have x00 := L.b0.c60; have y00 := L.b0.fr 0; have x01 := L.b0.c61; have y01 := L.b0.fr 1; have x02 := L.b0.c62; have y02 := L.b0.fr 2; have x03 := L.b0.c63; have y03 := L.b0.fr 3; have x04 := L.b0.c64; have y04 := L.b0.fr 4; have x05 := L.b0.c65; have y05 := L.b0.fr 5))))
  clear c00 f00 c01 f01 c02 f02 c03 f03 c04 f04 c05 f05 c10 c11 c12 c13 c14 c15 c20 c21 c22 c23 c24 c25
  go_wp2_with fail
  have LP := L.putI (by omega) (by first | (simp; done) | (simp; omega)) (ng um) A7 (zl um) c7 ue (ng zm) B7 (zl zm) d7 ze
  have k0 := LP.b0.c60
  have k1 := LP.b0.c61
  have k2 := LP.b0.c62
  have k3 := LP.b0.c63
  have k4 := LP.b0.c64
  have k5 := LP.b0.c65
  unfold put6 at k0 k1 k2 k3 k4 k5
  exact bodyPost_ret (v := .agg #[.bool (ng um), .slice A7 (zl um) c7, .int .i64 ue, .bool (ng zm), .slice B7 (zl zm) d7, .int .i64 ze]) (by simp [results, Tryz.results113, go_sem, k0, k1, k2, k3, k4, k5]) rfl ⟨_, rfl, isI_n (LP.getN (by simp)) (LP.getN (by simp)), LP.below⟩

end Go.Proofs.YtfnklkdbieikeaaGreatDoor
