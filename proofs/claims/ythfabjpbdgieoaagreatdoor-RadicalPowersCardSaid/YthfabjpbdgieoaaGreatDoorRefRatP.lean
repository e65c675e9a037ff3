/- The reference's Power: a negative number, an exponent from 0 on. -/
import Derived.Test.YthfabjpbdgieoaaGreatDoorBaseF
import Derived.Test.YthfabjpbdgieoaaGreatDoorBaseP
import Derived.Deep.RegionHeld3
import Derived.Deep.DrawnRows
namespace Go.Proofs.YthfabjpbdgieoaaGreatDoor
open Go.RowKit
set_option linter.unusedVariables false
set_option linter.unusedSimpArgs false
set_option maxRecDepth 100000
attribute [local go_sem ↓] Go.wp_at_zero Go.wp_at_succ

set_option maxHeartbeats 4000000 in
theorem rpow7_minus (n : Nat) (a : Int) (d : Nat) (vx : Value) (w : World) (hx : IsP w vx a d) (la : zl a ≤ 1000) (ld : len d ≤ 1000) (hn : n ≤ 64) (hs0 : ng a = true) :
    Calls Tryz.prog 31 #[vx, .int .i64 (n : Int)] w (RetPE w (sg (ng a && n % 2 == 1) (a.natAbs ^ n)) (d ^ n) 0) := by
  obtain ⟨A, c, B, g, rfl, _, hna, hd⟩ := hx.form
  have h1 : len (a.natAbs ^ n) ≤ 1000001 := by
    have h1 := len_pow a.natAbs n
    have h2 : n * len a.natAbs ≤ 64 * 1000 := Nat.mul_le_mul hn la
    omega
  have H1 := Lib.hid (fun v W h => rpower_any a.natAbs n v W h (Nat.le_trans la (by omega)) (by omega))
  have H2 := Lib.hid (fun v W h => rpower_any d n v W h (by omega) (by omega))
  have HS := Lib.hid (fun b v W h => rznatN_any b (a.natAbs ^ n) v W h (by omega))
  have L0 := ((Lq.mk0 w).n hna).n hd
  clear hx hna hd
  obtain ⟨p, hp⟩ : ∃ p, a.natAbs ^ n = p := ⟨_, rfl⟩
  obtain ⟨q, hq⟩ : ∃ q, d ^ n = q := ⟨_, rfl⟩
  rw [hp] at H1 HS h1 ⊢
  rw [hq] at H2 ⊢
  clear hp hq
  obtain ⟨s, hs⟩ : ∃ s, ng a = s := ⟨_, rfl⟩
  rw [hs] at hs0 ⊢
  obtain ⟨o, ho⟩ : ∃ o, (n % 2 == 1) = o := ⟨_, rfl⟩
  rw [ho]
  have e1 : ((n : Int).tmod 2 == 1) = o := by
    rw [← ho, Int.tmod_eq_emod_of_nonneg (by omega), Bool.eq_iff_iff]
    simp
    omega
  have b1 : decide ((n : Int) < -64) = false := decide_eq_false (by omega)
  have b2 : decide (64 < (n : Int)) = false := decide_eq_false (by omega)
  have b3 : decide ((n : Int) < 0) = false := decide_eq_false (by omega)
  have HS0 := Lib.hid hs0
  clear hs hs0
  go_enter Tryz.func31, Tryz.ntmps31
  go_wp2_with fail
  have L := ((L0.varQ (w.heap.size) (by simp) s A B (zl a) c (len d) g).varQ (w.heap.size + 1) (by simp) false none none 0 0 0 0)
  have c00 := L.b0.c30
  have f00 := L.b0.fr 0
  have c01 := L.b0.c31
  have f01 := L.b0.fr 1
  have c02 := L.b0.c32
  have f02 := L.b0.fr 2
  have c10 := L.tl.b0.c30
  have c11 := L.tl.b0.c31
  have c12 := L.tl.b0.c32
  obtain rfl : s = true := HS0.out
  replace L := L.drew
  clear c00 f00 c01 f01 c02 f02 c10 c11 c12
  have c00 := L.b0.c30
  have f00 := L.b0.fr 0
  have c01 := L.b0.c31
  have f01 := L.b0.fr 1
  have c02 := L.b0.c32
  have f02 := L.b0.fr 2
  have c10 := L.tl.b0.c30
  have c11 := L.tl.b0.c31
  have c12 := L.tl.b0.c32
  go_region_held3 (fun w' => w'.cell? ⟨w.heap.size, 0, none⟩ = some (.bool true) ∧ w'.cell? ⟨w.heap.size, 1, none⟩ = some (.slice A (zl a) c) ∧ w'.cell? ⟨w.heap.size, 2, none⟩ = some (.slice B (len d) g)) (first | (with_reducible exact ⟨L.tl.b0.c30, L.tl.b0.c31, L.tl.b0.c32⟩) | exact ⟨L.tl.b0.c30, L.tl.b0.c31, L.tl.b0.c32⟩ | (have LP := L.putQ (by omega) (by first | (simp; done) | (simp; omega)) (ng (sg o p)) A9 B9 (zl (sg o p)) c9 (len q) d9; exact ⟨LP.tl.b0.c30, LP.tl.b0.c31, LP.tl.b0.c32⟩)) (first | (go_at_call 71; (with_reducible refine (H1.out _ _ ?_ ).mono ?_); (· (refine L.getN ?_; (repeat (first | (with_reducible exact List.mem_cons_self) | apply List.mem_cons_of_mem)))); rintro e wh ⟨vh, rfl, o9⟩; replace L := (L.step o9.below).n o9.isN; obtain ⟨B9, d9, rfl⟩ := L.hn.form; clear o9; (try (have x00 := L.b0.c30; have x01 := L.b0.c31; have x02 := L.b0.c32; have y00 := L.b0.fr 0; have y01 := L.b0.fr 1; have y02 := L.b0.fr 2; have z0 := L.tl.b0.c30; have z1 := L.tl.b0.c31; have z2 := L.tl.b0.c32))) | (go_at_call 70; (with_reducible refine (HS.out _ _ _ ?_ ).mono ?_); (· (refine L.getN ?_; (repeat (first | (with_reducible exact List.mem_cons_self) | apply List.mem_cons_of_mem)))); rintro e wh ⟨vh, rfl, iz, be⟩; replace L := (L.step be).z iz; obtain ⟨A9, c9, rfl, _⟩ := iz.form; clear be iz; (try (have x00 := L.b0.c30; have x01 := L.b0.c31; have x02 := L.b0.c32; have y00 := L.b0.fr 0; have y01 := L.b0.fr 1; have y02 := L.b0.fr 2; have z0 := L.tl.b0.c30; have z1 := L.tl.b0.c31; have z2 := L.tl.b0.c32))) | (go_at_call 71; (with_reducible refine (H2.out _ _ ?_ ).mono ?_); (· (refine L.getN ?_; (repeat (first | (with_reducible exact List.mem_cons_self) | apply List.mem_cons_of_mem)))); rintro e wh ⟨vh, rfl, o9⟩; replace L := (L.step o9.below).n o9.isN; obtain ⟨B9, d9, rfl⟩ := L.hn.form; clear o9; (try (have x00 := L.b0.c30; have x01 := L.b0.c31; have x02 := L.b0.c32; have y00 := L.b0.fr 0; have y01 := L.b0.fr 1; have y02 := L.b0.fr 2; have z0 := L.tl.b0.c30; have z1 := L.tl.b0.c31; have z2 := L.tl.b0.c32))))
  clear c00 f00 c01 f01 c02 f02 c10 c11 c12
  go_wp2_with fail
  have LP := L.putQ (by omega) (by first | (simp; done) | (simp; omega)) (ng (sg o p)) A9 B9 (zl (sg o p)) c9 (len (q)) d9
  have k0 := LP.b0.c30
  have k1 := LP.b0.c31
  have k2 := LP.b0.c32
  unfold put3 at k0 k1 k2
  exact bodyPost_ret (v := .tuple #[.agg #[.bool (ng (sg o p)), .slice A9 (zl (sg o p)) c9, .slice B9 (len (q)) d9], .int .i64 0]) (by simp [results, Tryz.results31, go_sem, k0, k1, k2]) rfl ⟨_, rfl, isP_of LP.hz LP.hn, LP.below⟩

end Go.Proofs.YthfabjpbdgieoaaGreatDoor
