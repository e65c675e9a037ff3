/- The program's radical: power. -/
import Derived.Test.YthfabjpbdgieoaaGreatDoorRdQZ
import Derived.Test.YthfabjpbdgieoaaGreatDoorBaseD
import Derived.Test.YthfabjpbdgieoaaGreatDoorBaseI
import Derived.Deep.RegionHeld3
import Derived.Deep.DrawnRows
import Derived.Deep.Cut
import Derived.Deep.CutRange
namespace Go.Proofs.YthfabjpbdgieoaaGreatDoor
open Go.RowKit
set_option linter.unusedVariables false
set_option linter.unusedSimpArgs false
set_option maxRecDepth 100000
attribute [local go_sem ↓] Go.wp_at_zero Go.wp_at_succ

set_option maxHeartbeats 16000000 in
theorem dpower_any (m e j : Int) (vx : Value) (w : World) (hx : IsD w vx m e) (hb : PB m e j) (h0 : j < 0 → m ≠ 0) :
    Calls Tryz.prog 114 #[vx, .int .i64 j] w (RetP w (dpN m j * 2 ^ (e * j).toNat) (dpD m j * 2 ^ (-(e * j)).toNat)) := by
  obtain ⟨A, c, rfl, _, hn1⟩ := hx.form
  have L0 := (Lq.mk0 w).n hn1
  obtain ⟨z1, z2, z3, z4⟩ := dpow_len hb
  obtain ⟨_, _, _, z5⟩ := pb_len hb
  have HO := Lib.hid (fun W => zof_any 1 W (by omega) (by omega))
  have g2 := fun v W h => ppow_part hb h0 v W h
  obtain ⟨p, hp⟩ : ∃ z, e * j = z := ⟨_, rfl⟩
  rw [hp] at z3 z4 z5 ⊢
  have w1 : IntKind.i64.wrap (e * j) = p := by rw [hp, IntKind.wrap_i64]; omega
  obtain ⟨a, ha⟩ : ∃ a : Nat, p.toNat = a := ⟨_, rfl⟩
  obtain ⟨b, hb'⟩ : ∃ a : Nat, (-p).toNat = a := ⟨_, rfl⟩
  rw [ha] at z3 ⊢
  rw [hb'] at z4 ⊢
  obtain ⟨p2, hp2⟩ : ∃ z, -p = z := ⟨_, rfl⟩
  have w2 : IntKind.i64.wrap (-p) = p2 := by rw [IntKind.wrap_i64]; omega
  have x1 : max p 0 = (a : Int) := by omega
  have x2 : max p2 0 = (b : Int) := by omega
  obtain ⟨N, hN⟩ : ∃ z, dpN m j = z := ⟨_, rfl⟩
  obtain ⟨D1, hD⟩ : ∃ z, dpD m j = z := ⟨_, rfl⟩
  rw [hN] at z1 z3 g2 ⊢
  rw [hD] at z2 z4 g2 ⊢
  have g3 := fun v W h => zshl_any N v W h (by omega) a (by omega)
  have g4 := fun v W h => zshl_any (D1 : Int) v W h (show zl (D1 : Int) ≤ 274877906944 from Nat.le_trans z2 (by omega)) b (by omega)
  have hc2 : (D1 : Int) * 2 ^ b = ((D1 * 2 ^ b : Nat) : Int) := by rw [Int.natCast_mul, cast2]
  rw [hc2] at g4
  obtain ⟨a9, ha9⟩ : ∃ z, N * 2 ^ a = z := ⟨_, rfl⟩
  obtain ⟨d9, hd9⟩ : ∃ z, D1 * 2 ^ b = z := ⟨_, rfl⟩
  rw [ha9] at g3 ⊢
  rw [hd9] at g4 ⊢
  have H2 := Lib.hid g2
  have H3 := Lib.hid g3
  have H4 := Lib.hid g4
  have hfd : ∀ (x : Bool) (E : Option Addr) (n1 n2 : Nat) (W : World), (Instr.field 24 (.agg #[.bool x, .slice E n1 n2]) 1).run Tryz.prog W = .ok (.slice E n1 n2) W := fun _ _ _ _ _ => by kernel_rfl
  clear g2 g3 g4 hp ha hb' hp2 hN hD hc2 ha9 hd9 z1 z2 z3 z4 z5 hb h0 hx hn1
  go_enter Tryz.func114, Tryz.ntmps114
  go_wp2_with fail
  have L := ((L0.varD (w.heap.size) (by simp) (ng m) A (zl m) c e).varQ (w.heap.size + 1) (by simp) false none none 0 0 0 0)
  (try go_wp2_with fail)
  obtain ⟨V, hV, L9⟩ := L.name
  rw [hV]
  clear hV L
  have L := L9
  clear L9
  have hb1 := L.tl.b0.lt
  have hb2 := L.b0.lt
  have Q0 := Lib.hid (fun Z (hZ : Below V.heap.size V Z) => (L.tl.b0.mono hZ).c30)
  have Q1 := Lib.hid (fun Z (hZ : Below V.heap.size V Z) => (L.tl.b0.mono hZ).c31)
  have D0 : Dq V V [(.slice A (zl m) c, m.natAbs)] [] [] [] := ⟨(Lq.mk0 V).n (L.getN (v := .slice A (zl m) c) (x := m.natAbs) (by simp)), List.nodup_nil, fun p hp => by cases hp⟩
  have D := D0.drew
  have LL := Lib.hid L
  clear L
  obtain ⟨K, hK⟩ : ∃ K, V.heap.size = K := ⟨_, rfl⟩
  have hz0 : K ≤ V.heap.size := by omega
  have hc1 : w.heap.size < K := by omega
  have hmd : V.drew.heap.size = K := hK
  go_cut [5, 6] from 10 to 20 (fun s5 s6 wx => s6 = .int .i64 0 ∧ Made1Q V N D1 s5 wx)
  case first =>
    go_region_held3 (fun w' => w'.cell? ⟨w.heap.size, 0, none⟩ = some (.bool (ng m)) ∧ w'.cell? ⟨w.heap.size, 1, none⟩ = some (.slice A (zl m) c)) (((try dsimp only); refine ⟨?_, ?_⟩ <;> (repeat (first | (with_reducible exact Q0.out _ D.lq.below) | (with_reducible exact Q0.out _ D0.lq.below) | (with_reducible exact Q1.out _ D.lq.below) | (with_reducible exact Q1.out _ D0.lq.below) | (with_reducible refine c_alloc _ ?_) | (with_reducible refine c_drew ?_) | (with_reducible refine c_set ?_ (by assumption) ?_) | omega)))) (first | (go_at_call 104; (with_reducible refine (HO.out _).mono ?_); rintro e9 wh ⟨vh, rfl, iz, be⟩; obtain ⟨A7, c7, rfl, in7⟩ := iz.form; have in8 : IsN _ (.slice A7 (zl 1) c7) 1 := in7; (first | (replace D := (D.step be).n in8) | (replace D := ((D.boxM hmd false none none 0 0 0 0).step be).n in8) | (replace D := ((D.box false none none 0 0 0 0).step be).n in8)); have hz := be.size; (try simp at hz); clear iz in7; (try (have x00 := D.lq.b0.c30; have x01 := D.lq.b0.c31; have x02 := D.lq.b0.c32; have y00 := D.lq.b0.fr 0; have y01 := D.lq.b0.fr 1; have y02 := D.lq.b0.fr 2)); (try obtain ⟨na, nb, nc, nd, nl⟩ := D.n0)) | (go_at_call 155; (with_reducible refine (H2.out _ _ ?_).mono ?_); (· (first | (with_reducible refine isP_nn (a := m) (d := 1) (D.getN ?_) (D.getN ?_) <;> (repeat (first | (with_reducible exact List.mem_cons_self) | apply List.mem_cons_of_mem))) | (with_reducible refine isP_nn (a := m) (d := 1) ((D.box false none none 0 0 0 0).getN ?_) ((D.box false none none 0 0 0 0).getN ?_) <;> (repeat (first | (with_reducible exact List.mem_cons_self) | apply List.mem_cons_of_mem))) | (with_reducible refine isP_nn (a := m) (d := 1) ((D0.box false none none 0 0 0 0).drew.getN ?_) ((D0.box false none none 0 0 0 0).drew.getN ?_) <;> (repeat (first | (with_reducible exact List.mem_cons_self) | apply List.mem_cons_of_mem))))); rintro e9 wh ⟨vh, rfl, iq, be⟩; (first | (replace D := (D.step be).q iq) | (replace D := ((D.boxM hmd false none none 0 0 0 0).step be).q iq) | (replace D := ((D.box false none none 0 0 0 0).step be).q iq)); have hz := be.size; (try simp at hz); obtain ⟨A8, c8, B8, k8, rfl, _, _, _⟩ := iq.form; (try (have x00 := D.lq.b0.c30; have x01 := D.lq.b0.c31; have x02 := D.lq.b0.c32; have y00 := D.lq.b0.fr 0; have y01 := D.lq.b0.fr 1; have y02 := D.lq.b0.fr 2)); (try obtain ⟨na, nb, nc, nd, nl⟩ := D.n0)))
    all_goals
      go_wp2_with fail
      go_meet
      refine ⟨rfl, ?_⟩
      first
      | ((with_reducible refine made1q_a D ?_) <;> (repeat (first | (with_reducible exact List.mem_cons_self) | apply List.mem_cons_of_mem)))
      | ((with_reducible refine made1q_b D ?_) <;> (repeat (first | (with_reducible exact List.mem_cons_self) | apply List.mem_cons_of_mem)))
  case rest =>
    obtain ⟨rfl, g5, A8, c8, B8, k8, rfl, hg5, bw, hbx, hqq⟩ := hcut
    have L := ((LL.out.step bw).q hqq).b hbx
    clear D D0 hmd hz0 hK hb1 Q0 Q1 LL bw hbx hqq hfd HO H2
    generalize wc = wd at *
    have cel00 := L.b0.c30
    have cel01 := L.b0.c31
    have cel02 := L.b0.c32
    have cel20 := L.tl.tl.b0.c30
    have cel21 := L.tl.tl.b0.c31
    have cel22 := L.tl.tl.b0.c32
    (try go_wp2_with fail)
    clear cel00 cel01 cel02 cel20 cel21 cel22
    obtain ⟨A8', c8', B8', k8', e8, iz8, _, in8⟩ := (L.getQ (v := .agg #[.bool (ng N), .slice A8 (zl N) c8, .slice B8 (len D1) k8]) (a := N) (d := D1) (by simp)).form
    simp only [Value.agg.injEq, Array.mk.injEq, List.cons.injEq, Value.slice.injEq, true_and, and_true] at e8
    obtain ⟨⟨rfl, rfl⟩, rfl, rfl⟩ := e8
    replace L := (L.z (isZ_nat in8)).z iz8
    clear iz8 in8
    refine (H3.out _ _ (L.getZ (v := .agg #[.bool (ng N), .slice A8 (zl N) c8]) (by simp))).mono ?_
    rintro e w21 ⟨vv, rfl, iz, be⟩
    replace L := (L.step be).z iz
    obtain ⟨A9, c9, rfl, in9⟩ := iz.form
    replace L := L.n in9
    clear be iz in9
    have hlg9 := L.b0.lt
    have hlg9' := L.tl.b0.lt
    replace L := L.varZ w21.heap.size rfl (ng a9) A9 (zl a9) c9
    have cel00 := L.b0.c20
    have cel01 := L.b0.c21
    have cel10 := L.tl.b0.c30
    have cel11 := L.tl.b0.c31
    have cel12 := L.tl.b0.c32
    go_wp2_with fail
    obtain ⟨g9, hg⟩ : ∃ g, w21.heap.size = g := ⟨_, rfl⟩
    rw [hg] at L hlg9 hlg9' cel00 cel01 ⊢
    clear hg
    clear cel00 cel01 cel10 cel11 cel12
    refine (H4.out _ _ (L.getZ (v := .agg #[.bool false, .slice B8 (len D1) k8]) (by simp))).mono ?_
    rintro e w22 ⟨vv, rfl, iz, be⟩
    replace L := (L.step be).z iz
    obtain ⟨B9, k9, rfl, in9⟩ := iz.form
    replace L := L.n in9
    clear be iz in9
    have R := L.pick [(w.heap.size + 1, 57, #[.bool false, .slice none 0 0, .slice none 0 0])] (by simp)
    have hlr := R.b0.lt
    have hlr2 := L.b0.lt
    have r0 := R.b0.c30
    have s0 := R.b0.fr 0
    have r1 := R.b0.c31
    have s1 := R.b0.fr 1
    have r2 := R.b0.c32
    have s2 := R.b0.fr 2
    have LN := L.varZ w22.heap.size rfl (ng (d9 : Int)) B9 (zl (d9 : Int)) k9
    have x0 := LN.b0.c20
    have x1 := LN.b0.c21
    have x2 := LN.tl.b0.c20
    have x3 := LN.tl.b0.c21
    go_wp2_with fail
    have LP0 := R.putQ (by omega) (by first | (simp; done) | (simp; omega)) (ng a9) A9 B9 (zl a9) c9 (zl (d9 : Int)) k9
    have LP := LP0.varZ _ rfl (ng (d9 : Int)) B9 (zl (d9 : Int)) k9
    have k0 := LP.tl.b0.c30
    have k1 := LP.tl.b0.c31
    have k2 := LP.tl.b0.c32
    unfold put3 at k0 k1 k2
    exact bodyPost_ret (v := .agg #[.bool (ng a9), .slice A9 (zl a9) c9, .slice B9 (zl (d9 : Int)) k9]) (by simp [results, Tryz.results114, go_sem, k0, k1, k2]) rfl ⟨_, rfl, ⟨_, _, rfl, LP.getN (by simp), (show IsN _ _ (d9 : Int).natAbs from LP.getN (by simp))⟩, LP.below⟩
/-- The power that the program takes. -/
theorem dpow_pair {m e j : Int} (hb : PB m e j) (h0 : j < 0 → m ≠ 0) : ∃ (a : Int) (d : Nat), 0 < d ∧ zl a ≤ 800 ∧ len d ≤ 800 ∧ Rat.divInt a (d : Int) = pw (dq m e) j ∧ ∀ v W, IsD W v m e → Calls Tryz.prog 114 #[v, .int .i64 j] W (RetP W a d) := by
  obtain ⟨_, _, z3, z4⟩ := dpow_len hb
  obtain ⟨v1, v2⟩ := dpow_val (m := m) (e := e) h0
  exact ⟨_, _, v1, z3, z4, v2, fun v W h => dpower_any m e j v W h hb h0⟩


end Go.Proofs.YthfabjpbdgieoaaGreatDoor
